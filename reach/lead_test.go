package reach_test

import (
	"fmt"
	"math/rand"
	"slices"
	"testing"

	"mooring/api"
	"mooring/reach"
)

// graph is objects, and the ranks of remote IDs.
type graph struct {
	name   string
	things []thing
	met    []api.Out
}

// graphs are such of all kinds.
func graphs() []graph {
	a, b, c := far(2, 7), far(9, 1), far(2, 8)
	met := []api.Out{{ID: a, Rank: 9}, {ID: b, Rank: 5}, {ID: c, Rank: 3}}
	return []graph{
		{"nothing", nil, met},
		{"one that nobody holds", []thing{held(0, 9, a)}, met},
		{"one that leads to itself", []thing{held(2, 9, own(1))}, met},
		{"one that leads out", []thing{held(2, 9, a, b, c)}, met},
		{"one that leads out, with nothing met", []thing{held(2, 9, a, b, c)}, nil},
		{"a chain", []thing{held(3, 9, own(2)), held(0, 9, own(3)), held(0, 9, own(4)), held(0, 9, a)}, met},
		{"a chain the other way round", []thing{held(0, 9, a), held(0, 9, own(1)), held(0, 9, own(2)), held(3, 9, own(3), b)}, met},
		{"a chain that is broken", []thing{held(3, 9, own(2)), held(0, 9, own(3), b), held(0, 2, own(4)), held(0, 9, a)}, met},
		{"a chain of which each is held", []thing{held(3, 9, own(2), a), held(1, 8, own(3), b), held(2, 7, own(4), c), held(1, 6)}, met},
		{"ranks that fall", []thing{held(3, 9, own(2), a), held(0, 7, own(3), b), held(0, 5, own(4), c), held(0, 3, a)}, met},
		{"ranks that rise", []thing{held(3, 4, own(2)), held(0, 5, own(3)), held(0, 7, own(4)), held(0, 9, a)}, met},
		{"a ring", []thing{held(0, 9, own(2), a), held(0, 9, own(3), b), held(4, 9, own(1))}, met},
		{"a ring, each of which is held", []thing{held(1, 9, own(2), a), held(2, 9, own(3), b), held(4, 9, own(1), c)}, met},
		{"a ring with one that is not suspect", []thing{held(1, 9, own(2), a), held(2, 1, own(3), b), held(4, 9, own(1), c)}, met},
		{"two rings, one of which leads to the other", []thing{held(6, 9, own(2), a), held(0, 9, own(1), own(3)), held(2, 9, own(4), b), held(0, 9, own(3))}, met},
		{"two rings, the other way round", []thing{held(2, 9, own(2), b), held(0, 9, own(1)), held(6, 9, own(4), a), held(0, 9, own(3), own(1))}, met},
		{"rings within a ring", []thing{held(8, 9, own(2), own(3)), held(0, 8, own(1), own(4), a), held(7, 7, own(4), own(1), b), held(0, 6, own(2), own(3), c)}, met},
		{"two that meet", []thing{held(1, 9, own(3)), held(1, 9, own(3)), held(0, 9, own(4), a), held(0, 9, b)}, met},
		{"two ways to one", []thing{held(1, 9, own(2), own(3)), held(0, 9, own(4)), held(0, 9, own(4)), held(0, 9, a)}, met},
		{"two ways, one of which is broken", []thing{held(1, 9, own(2), own(3)), held(0, 1, own(4)), held(0, 9, own(4)), held(0, 9, a)}, met},
		{"references to none, and to no object", []thing{held(3, 9, none, own(7), own(2), none), held(0, 9, own(maxSerial), a)}, met},
		{"remote ones with serials of one's own", []thing{held(5, 9, far(2, 2), far(here+1, 2)), held(0, 9, a)}, []api.Out{{ID: far(here+1, 2), Rank: 9}, {ID: a, Rank: 9}}},
		{"none that is marked", []thing{held(5, bare, own(2), a), held(4, bare, own(1))}, met},
		{"the greatest rank", []thing{held(maxDist, maxDist, own(2)), held(0, maxDist, own(1), a)}, []api.Out{{ID: a, Rank: maxDist}}},
	}
}

// side answers a side with the graph.
func (g graph) side(t *testing.T, last uint64) side {
	t.Helper()
	s := sideOf(t, last, g.things...)
	for _, m := range g.met {
		s.p.Shade(m.ID, m.Rank)
	}
	return s
}

// Each graph, with each bound: the rows are those that a search finds; begun
// anew, they are the same.
func TestAllThatIsLedTo(t *testing.T) {
	for _, g := range graphs() {
		t.Run(g.name, func(t *testing.T) {
			s := g.side(t, 0)
			r := s.reacher(t, 0)
			for bound := -1; bound <= maxDist; bound++ {
				s.reaches(t, r, bound)
				first := drawn(r.Rows())
				s.reaches(t, r, bound)
				if again := drawn(r.Rows()); again != first {
					t.Errorf("14.4: begun anew with %d, Rows is %q, not %q", bound, again, first)
				}
			}
		})
	}
}

// Plain rows, told without a search: rings, what several lead to, what is not
// suspect, and what nobody else holds.
func TestPlainRows(t *testing.T) {
	s := sideOf(t, 0,
		held(5, 9, own(2), far(2, 7)),
		held(0, 8, own(3), far(2, 8)),
		held(1, 7, own(1)),
		held(2, 2, own(1), far(9, 9)),
		held(0, 9, far(9, 9)),
		held(3, 9, own(4), own(7)),
		held(0, 9, own(2)),
	).meets(9, far(2, 7), far(9, 9)).meets(8, far(2, 8))
	r := s.reacher(t, 0)
	for bound, want := range map[int]string{
		-1: "1:2.7,2.8 3:2.7,2.8 4:2.7,2.8,9.9 6:2.7,2.8,9.9",
		1:  "1:2.7,2.8 3:2.7,2.8 4:2.7,2.8,9.9 6:2.7,2.8,9.9",
		2:  "1:2.7,2.8 3:2.7,2.8 6:2.7,2.8",
		6:  "1:2.7,2.8 3:2.7,2.8 6:2.7,2.8",
		7:  "1:2.7,2.8 6:2.8",
		8:  "1:2.7 6:",
		9:  "",
		40: "",
	} {
		r.Begin(bound)
		runs(t, r)
		shows(t, r, fmt.Sprint("with the bound ", bound), want)
	}
}

// within tells whether each row of a is one of b, and has no Out that b's has
// not.
func within(a, b []api.Reach) bool {
	for _, w := range a {
		i := slices.IndexFunc(b, func(v api.Reach) bool { return v.In == w.In })
		if i < 0 {
			return false
		}
		for _, x := range w.Outs {
			if !slices.Contains(b[i].Outs, x) {
				return false
			}
		}
	}
	return true
}

// shrinks looks at each bound, in turn: with a greater one no row and no Out
// comes that was not there.
func shrinks(t *testing.T, r *reach.Reacher) {
	t.Helper()
	var was []api.Reach
	for bound := -1; bound <= maxDist; bound++ {
		r.Begin(bound)
		runs(t, r)
		rows := r.Rows()
		if bound >= 0 && !within(rows, was) {
			t.Fatalf("14.4: with the bound %d, Rows is %q; with one less it was %q", bound, drawn(rows), drawn(was))
		}
		was = rows
	}
	if len(was) != 0 {
		t.Fatalf("14.1: with the greatest rank as bound, Rows is %q", drawn(was))
	}
}

func TestAGreaterBoundTellsNoMore(t *testing.T) {
	for _, g := range graphs() {
		shrinks(t, g.side(t, 0).reacher(t, 0))
	}
	for seed := range int64(40) {
		r := rand.New(rand.NewSource(seed))
		shrinks(t, randomGraph(r, 1+r.Intn(maxObjects), 0).side(t, 0).reacher(t, 0))
	}
}

// pairs are two references of an object among three, and one that is remote.
func pairs() [][]api.ID {
	all := []api.ID{none, own(1), own(2), own(3), far(2, 7)}
	var l [][]api.ID
	for i, x := range all {
		for _, y := range all[:i+1] {
			l = append(l, []api.ID{x, y})
		}
	}
	return l
}

// Every graph of three objects with two references each, by turns with one or
// more of them held, and with each of them suspect, not suspect, or not marked.
func TestEverySmallGraph(t *testing.T) {
	l := pairs()
	ranks := []int{5, 2, bare}
	n := 0
	for _, one := range l {
		for _, two := range l {
			for _, three := range l {
				for k := range 9 {
					n++
					in, rank := 1+n%7, k+9*(n%3)
					g := graph{things: []thing{
						{in % 2, ranks[rank%3], one},
						{in / 2 % 2, ranks[rank/3%3], two},
						{in / 4, ranks[rank/9], three},
					}, met: []api.Out{{ID: far(2, 7), Rank: 1 + 4*(n%5)}}}
					s := g.side(t, 0)
					s.reaches(t, s.reacher(t, 0), 3)
				}
			}
		}
	}
}

// randomGraph answers objects with a few references each, among one another and
// to others, of serials behind last.
func randomGraph(r *rand.Rand, count int, last uint64) graph {
	var g graph
	for range count {
		g.things = append(g.things, randomThing(r, count, last))
	}
	for range r.Intn(12) {
		g.met = append(g.met, api.Out{ID: randomFar(r), Rank: r.Intn(12)})
	}
	return g
}

// randomThing answers an object.
func randomThing(r *rand.Rand, count int, last uint64) thing {
	o := thing{in: max(0, r.Intn(12)-6), rank: r.Intn(12) - 1}
	for range r.Intn(5) {
		o.refs = append(o.refs, randomID(r, count, last))
	}
	return o
}

// randomFar answers one of a few remote IDs.
func randomFar(r *rand.Rand) api.ID { return far(here-1+2*r.Intn(2), uint64(1+r.Intn(6))) }

// randomID answers an ID, mostly of one of these objects.
func randomID(r *rand.Rand, count int, last uint64) api.ID {
	switch r.Intn(12) {
	case 0:
		return none
	case 1, 2, 3:
		return randomFar(r)
	case 4:
		return own(min(last+uint64(count)+1, maxSerial))
	default:
		return own(min(last+1+uint64(r.Intn(count)), maxSerial))
	}
}

// Graphs of many objects, some of which were freed, with several bounds.
func TestManyGraphs(t *testing.T) {
	lasts := []uint64{0, 0, 7, 1 << 40, maxSerial - maxObjects}
	for seed := range int64(300) {
		r := rand.New(rand.NewSource(seed))
		count, last := 1+r.Intn(maxObjects), lasts[seed%5]
		s := randomGraph(r, count, last).side(t, last)
		for range r.Intn(1 + count/4) {
			s.h.Free(last + 1 + uint64(r.Intn(count)))
		}
		x := s.reacher(t, 0)
		for _, bound := range []int{-1, 0, r.Intn(12), 5, 2, 12} {
			s.reaches(t, x, bound)
		}
	}
}

// Graphs that are marked as a collector marks them, each from what others hold
// and with the least rank: the rows are those that a search finds.
func TestManyGraphsThatWereMarked(t *testing.T) {
	for seed := range int64(150) {
		r := rand.New(rand.NewSource(seed))
		count := 1 + r.Intn(maxObjects)
		s := randomGraph(r, count, 0).side(t, 0)
		s.p.Turn()
		for serial := uint64(1); serial <= s.h.Last(); serial++ {
			if o, _ := s.h.Object(serial); o.In > 0 {
				s.p.Shade(own(serial), o.In)
			}
		}
		s.p.Shade(own(1+uint64(r.Intn(count))), 0)
		for serial, ok := s.p.Pop(); ok; serial, ok = s.p.Pop() {
			s.p.Scan(serial)
		}
		x := s.reacher(t, 0)
		for bound := range 8 {
			s.reaches(t, x, bound)
		}
	}
}
