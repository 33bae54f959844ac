package mark_test

import (
	"math/rand"
	"testing"

	"mooring/api"
)

// graph is objects, and what is Shaded ahead of the Steps.
type graph struct {
	name   string
	things []thing
	roots  []root
}

// graphs are such of all kinds.
func graphs() []graph {
	a, b := far(2, 7), far(9, 1)
	return []graph{
		{"nothing", nil, nil},
		{"nothing, but what is remote", nil, []root{{a, 3}, {b, 0}, {a, 1}}},
		{"one that nobody holds", []thing{held(0)}, nil},
		{"one that leads to itself", []thing{held(2, 1)}, nil},
		{"one that leads to itself, and nobody holds", []thing{held(0, 1)}, nil},
		{"a row", []thing{held(3, 2), held(0, 3), held(0, 4), held(0)}, nil},
		{"a row the other way round", []thing{held(0), held(0, 1), held(0, 2), held(3, 3)}, nil},
		{"a row with a lesser one within", []thing{held(9, 2), held(5, 3), held(7, 4), held(1)}, nil},
		{"a ring", []thing{held(0, 2), held(0, 3), held(4, 1)}, nil},
		{"a ring that nobody holds", []thing{held(0, 2), held(0, 3), held(0, 1), held(1)}, nil},
		{"two rings, one of which leads to the other", []thing{held(6, 2), held(0, 1, 3), held(2, 4), held(0, 3)}, nil},
		{"two rings, the other way round", []thing{held(2, 2), held(0, 1, 3), held(6, 4), held(0, 3)}, nil},
		{"rings within a ring", []thing{held(8, 2, 3), held(0, 1, 4), held(7, 4, 1), held(0, 2, 3)}, []root{{own(4), 5}}},
		{"several roots", []thing{held(0, 3), held(0, 3, 4), held(0, 4), held(0, 5), held(0)}, []root{{own(1), 4}, {own(2), 2}, {own(4), 1}}},
		{"one root, Shaded thrice", []thing{held(0, 2), held(0)}, []root{{own(1), 4}, {own(1), 2}, {own(1), 3}}},
		{"a root beside its In", []thing{held(2, 2), held(5, 1)}, []root{{own(1), 7}, {own(2), 0}}},
		{"ranks that are brought in", []thing{held(0, 2), held(0), held(0)}, []root{{own(1), -7}, {own(3), 1000}}},
		{"roots that are none", []thing{held(0), held(1)}, []root{{none, 1}, {own(9), 1}, {far(0, 1), 1}, {far(maxNodes+1, 1), 1}}},
		{"remote ones", []thing{{5, []api.ID{a, own(2)}}, {2, []api.ID{a, b}}, {0, []api.ID{far(1, 1)}}}, []root{{b, 4}}},
		{"remote ones with serials of one's own", []thing{{5, []api.ID{far(2, 2), far(here+1, 2)}}, held(0)}, nil},
		{"the greatest rank", []thing{held(maxDist, 2), {0, []api.ID{own(1), a}}}, nil},
		{"references to none, and to no object", []thing{{3, []api.ID{none, own(7), own(2), none}}, {0, []api.ID{own(maxSerial)}}}, nil},
	}
}

// Each graph, with stacks of each size, and the roots Shaded in both orders.
func TestAllThatCanBeReached(t *testing.T) {
	for _, g := range graphs() {
		t.Run(g.name, func(t *testing.T) {
			for _, most := range []int{1, 2, 3, maxGrey} {
				for _, turned := range []bool{false, true} {
					g.reaches(t, most, turned)
				}
			}
		})
	}
}

// reaches marks the graph, and holds what is marked against what can be reached;
// a second round turns nothing.
func (g graph) reaches(t *testing.T, most int, turned bool) {
	t.Helper()
	s := sideOf(t, most, 0, g.things...)
	m := s.marker(t)
	for i := range g.roots {
		r := g.roots[i]
		if turned {
			r = g.roots[len(g.roots)-1-i]
		}
		s.p.Shade(r.x, r.rank)
	}
	runs(t, m)
	s.reached(t, g.roots)
	s.ends(t, m)
	was := s.told()
	m.Begin()
	if n := runs(t, m); n != len(g.things) || s.told() != was {
		t.Fatalf("13.3: a second round had %d Steps, and turned\n%s\ninto\n%s", n, was, s.told())
	}
}

// Plain numbers, told without a search: a ring, a lesser rank that comes late,
// one that nobody holds.
func TestTheLeastRank(t *testing.T) {
	for _, most := range []int{1, 2, maxGrey} {
		s := sideOf(t, most, 0, held(7, 2), held(0, 3), held(5, 1, 4), thing{0, []api.ID{far(9, 9)}}, held(3, 4), held(0, 1))
		m := s.marker(t)
		s.p.Shade(own(2), 6)
		runs(t, m)
		s.shows(t, "at the end", "5 5 5 3 3 . 0")
		if rank, ok := s.p.Met(far(9, 9)); rank != 3 || !ok || len(s.p.Outs()) != 1 {
			t.Errorf("13.3: with a stack of %d, Met({9 9}) answered %d, %v", most, rank, ok)
		}
	}
}

// pairs are two references of an object among three, and one that is remote.
func pairs() [][]api.ID {
	all := []api.ID{none, own(1), own(2), own(3), far(2, 7)}
	var l [][]api.ID
	for i, x := range all {
		for _, y := range all[:i+1] {
			l = append(l, []api.ID{x, y})
		}
	}
	return l
}

// Every graph of three objects with two references each, each In of them 0 to 2,
// by turns with a root beside them and without, with a stack of one and of two.
func TestEverySmallGraph(t *testing.T) {
	l := pairs()
	n := 0
	for _, one := range l {
		for _, two := range l {
			for _, three := range l {
				for in := range 27 {
					n++
					g := graph{things: []thing{{in % 3, one}, {in / 3 % 3, two}, {in / 9, three}}}
					if n%3 == 0 {
						g.roots = []root{{own(uint64(1 + n/3%3)), n % 4}}
					}
					g.marks(t, 1+n%2)
				}
			}
		}
	}
}

// marks marks the graph, and holds what is marked against what can be reached.
func (g graph) marks(t *testing.T, most int) {
	t.Helper()
	s := sideOf(t, most, 0, g.things...)
	m := s.marker(t)
	for _, r := range g.roots {
		s.p.Shade(r.x, r.rank)
	}
	runs(t, m)
	s.reached(t, g.roots)
}

// randomThings answers objects with a few references each, among one another
// and to others, of serials behind last.
func randomThings(r *rand.Rand, count int, last uint64) []thing {
	var l []thing
	for range count {
		o := thing{in: max(0, r.Intn(12)-6)}
		for range r.Intn(5) {
			o.refs = append(o.refs, randomID(r, count, last))
		}
		l = append(l, o)
	}
	return l
}

// randomID answers an ID, mostly of one of these objects.
func randomID(r *rand.Rand, count int, last uint64) api.ID {
	switch r.Intn(12) {
	case 0:
		return none
	case 1, 2:
		return far(4+r.Intn(3), uint64(1+r.Intn(4)))
	case 3:
		return own(min(last+uint64(count)+1, maxSerial))
	default:
		return own(last + 1 + uint64(r.Intn(count)))
	}
}

// Graphs of many objects, with what is Shaded between the Steps as well as ahead
// of them; with stacks of all sizes.
func TestManyGraphs(t *testing.T) {
	lasts := []uint64{0, 0, 7, 1 << 40, maxSerial - maxObjects}
	for seed := range int64(400) {
		r := rand.New(rand.NewSource(seed))
		count, last := 1+r.Intn(maxObjects), lasts[seed%5]
		s := sideOf(t, 1+r.Intn(1+r.Intn(maxGrey)), last, randomThings(r, count, last)...)
		m := s.marker(t)
		var roots []root
		for range r.Intn(5) {
			x := root{randomID(r, count, last), r.Intn(9)}
			roots = append(roots, x)
			s.p.Shade(x.x, x.rank)
			for range r.Intn(20) {
				m.Step()
			}
		}
		runs(t, m)
		s.reached(t, roots)
		s.ends(t, m)
	}
}

// Each size of stack comes to the same.
func TestManyGraphsWithStacksOfEverySize(t *testing.T) {
	for seed := range int64(12) {
		r := rand.New(rand.NewSource(seed))
		things := randomThings(r, 24, 0)
		for most := 1; most <= 26; most++ {
			s := sideOf(t, most, 0, things...)
			runs(t, s.marker(t))
			s.reached(t, nil)
		}
	}
}

// A new turn begins anew: what was marked ahead of it is not seen.
func TestAnewBehindATurn(t *testing.T) {
	for _, most := range []int{1, 2, maxGrey} {
		s := sideOf(t, most, 0, held(2, 2, 3), held(0, 3), held(0), held(0, 2))
		m := s.marker(t)
		s.p.Shade(own(4), 1)
		runs(t, m)
		s.shows(t, "at the end", "2 1 1 1 0")
		s.p.Turn()
		m.Begin()
		runs(t, m)
		s.shows(t, "behind a Turn", "2 2 2 . 0")
		s.h.SetIn(1, 0)
		s.p.Turn()
		m.Begin()
		if n := runs(t, m); n != 4 {
			t.Errorf("13.2: with nothing to be marked, there were %d Steps, not 4", n)
		}
		s.shows(t, "behind another", ". . . . 0")
	}
}
