package cycle_test

import (
	"fmt"
	"math/rand"
	"runtime/debug"
	"testing"

	"mooring/api"
)

// doing is one thing that is done to a life.
type doing func(t *testing.T, l *life)

// tale is how a life begins, and what is done in it, in this order.
type tale struct {
	name   string
	slots  [][]api.ID
	things []thing
	doings []doing
}

// Short forms of what mutators do.
func makes(m, slot, refs int) doing {
	return func(t *testing.T, l *life) { l.make(m, slot, refs) }
}
func loads(m, from, field, to int) doing {
	return func(t *testing.T, l *life) { l.load(m, from, field, to) }
}
func stores(m, a, field, b int, ahead bool) doing {
	return func(t *testing.T, l *life) { l.store(m, a, field, b, ahead) }
}
func drops(m, slot int) doing   { return func(t *testing.T, l *life) { l.drop(m, slot) } }
func falls(serial uint64) doing { return func(t *testing.T, l *life) { l.falls(serial) } }
func comes(m, slot int, x api.ID) doing {
	return func(t *testing.T, l *life) { l.comes(m, slot, x) }
}
func raises(m, slot, in int) doing {
	return func(t *testing.T, l *life) { l.raise(m, slot, in) }
}

// atOnce is all of them, with nothing between.
func atOnce(all ...doing) doing {
	return func(t *testing.T, l *life) {
		for _, d := range all {
			d(t, l)
		}
	}
}

// tales are such in which a reference hides where the marker has been, or has
// not yet. An empty slot stands for none where it is stored.
func tales(ahead bool) []tale {
	a, b, c := own(1), own(2), own(3)
	return []tale{
		{"what a field held is loaded, and written over", [][]api.ID{{a, none, none}},
			[]thing{bare(b), bare(c), bare()},
			[]doing{loads(0, 0, 0, 1), stores(0, 0, 0, 2, ahead), loads(0, 1, 0, 2), drops(0, 1)}},
		{"a reference wanders from one object to another", [][]api.ID{{a, b, none}},
			[]thing{bare(c), bare(none), bare()},
			[]doing{loads(0, 0, 0, 2), stores(0, 1, 0, 2, ahead), drops(0, 2), stores(0, 0, 0, 2, ahead)}},
		{"the other way round", [][]api.ID{{b, a, none}},
			[]thing{bare(none), bare(c), bare()},
			[]doing{loads(0, 0, 0, 2), stores(0, 1, 0, 2, ahead), drops(0, 2), stores(0, 0, 0, 2, ahead)}},
		{"a slot is stored, and dropped", [][]api.ID{{a, c}},
			[]thing{bare(none), bare(), bare()},
			[]doing{stores(0, 0, 0, 1, ahead), drops(0, 1), loads(0, 0, 0, 1)}},
		{"an object is made, holds another, and is held by one alone", [][]api.ID{{a, c, none}},
			[]thing{bare(none), bare(), bare()},
			[]doing{makes(0, 2, 1), stores(0, 2, 0, 1, ahead), drops(0, 1), stores(0, 0, 0, 2, ahead)}},
		{"two mutators hand one on over an object", [][]api.ID{{a, c}, {a, none}},
			[]thing{bare(none), bare(), bare()},
			[]doing{stores(0, 0, 0, 1, ahead), drops(0, 1), loads(1, 0, 0, 1), stores(0, 0, 0, 1, ahead)}},
		{"one loads what another one writes over", [][]api.ID{{a, none}, {a, none}},
			[]thing{bare(c), bare(), bare()},
			[]doing{loads(1, 0, 0, 1), stores(0, 0, 0, 1, ahead), drops(0, 0)}},
		{"one makes what another one loads", [][]api.ID{{a, none}, {a, none}},
			[]thing{bare(none)},
			[]doing{makes(0, 1, 1), stores(0, 0, 0, 1, ahead), loads(1, 0, 0, 1), drops(0, 0)}},
		{"one stores into what another one has made", [][]api.ID{{a, none, none}, {a, c, none}},
			[]thing{bare(none), bare(), bare()},
			[]doing{atOnce(makes(0, 1, 1), stores(0, 0, 0, 1, ahead)), atOnce(loads(1, 0, 0, 2), stores(1, 2, 0, 1, ahead)), drops(1, 1)}},
		{"others make one, into which is stored", [][]api.ID{{c, none}},
			[]thing{bare(), bare(), bare()},
			[]doing{func(t *testing.T, l *life) { l.portMakes(1, 4) }, atOnce(comes(0, 1, own(4)), stores(0, 1, 0, 0, ahead)), drops(0, 0), drops(0, 1)}},
		{"what others hold comes in, and they let it go", [][]api.ID{{none}},
			[]thing{held(1, b), bare()},
			[]doing{comes(0, 0, a), falls(1), loads(0, 0, 0, 0)}},
		{"what is held is handed out, and dropped", [][]api.ID{{b}},
			[]thing{bare(), bare(a)},
			[]doing{raises(0, 0, 2), drops(0, 0), comes(0, 0, b), falls(2)}},
		{"others load what only theirs lead to", [][]api.ID{{none}},
			[]thing{bare(), bare(a), held(5, b)},
			[]doing{func(t *testing.T, l *life) { l.portLoads(3, 0, 2) }, falls(3), comes(0, 0, b), falls(2)}},
		{"others store what comes in", [][]api.ID{{a}},
			[]thing{held(3, none), held(2, c), bare()},
			[]doing{func(t *testing.T, l *life) { l.portStores(1, 0, b, ahead) }, falls(2), falls(1), loads(0, 0, 0, 0)}},
		{"others write over what one has loaded", [][]api.ID{{a, none}},
			[]thing{held(3, c), held(2), bare()},
			[]doing{loads(0, 0, 0, 1), func(t *testing.T, l *life) { l.portStores(1, 0, b, ahead) }, drops(0, 0)}},
	}
}

// line is a cycle: each answer that it needs, and Steps to its end, if nobody
// does anything else.
func line(mutators, objects int) []doing {
	step := func(t *testing.T, l *life) { l.step(t) }
	all := []doing{step}
	for m := range mutators {
		all = append(all, func(t *testing.T, l *life) { l.shake(m) })
	}
	for m := range mutators + 1 {
		all = append(all, func(t *testing.T, l *life) { l.shake(m) })
	}
	for range 4*objects + 4 {
		all = append(all, step)
	}
	return all
}

// everyWay tells the tale in each way: what is done in it stands at all places
// of the line, in its order.
func (g tale) everyWay(t *testing.T, s setting) {
	s.mutators = len(g.slots)
	l := line(s.mutators, len(g.things))
	var places func(at []int)
	places = func(at []int) {
		if len(at) == len(g.doings) {
			g.tell(t, s, l, at)
			return
		}
		first := 0
		if len(at) > 0 {
			first = at[len(at)-1]
		}
		for k := first; k <= len(l); k++ {
			places(append(at[:len(at):len(at)], k))
		}
	}
	places(nil)
}

// tell tells the tale with its doings at these places of the line, and looks at
// what stays.
func (g tale) tell(t *testing.T, s setting, line []doing, at []int) {
	l := s.life(t, 6, g.slots, g.things...)
	n := 0
	for k := 0; k <= len(line); k++ {
		for n < len(at) && at[n] == k {
			g.doings[n](t, l)
			n++
		}
		if k < len(line) {
			line[k](t, l)
		}
	}
	l.cleans(t)
}

// roomy lets the test's own memory be collected seldom, since there are very many
// small lives.
func roomy(t *testing.T) {
	was := debug.SetGCPercent(800)
	t.Cleanup(func() { debug.SetGCPercent(was) })
}

// Each tale in each way, with the smallest stack and the smallest work.
func TestEachTaleInEachWay(t *testing.T) {
	roomy(t)
	for _, ahead := range []bool{true, false} {
		for _, g := range tales(ahead) {
			t.Run(fmt.Sprint(g.name, ", told ahead ", ahead), func(t *testing.T) {
				t.Parallel()
				g.everyWay(t, setting{grey: 1, suspect: 3, work: 1})
			})
		}
	}
}

// dice is a source that is made at once, unlike the library's.
type dice uint64

func (d *dice) Seed(seed int64) { *d = dice(seed) }
func (d *dice) Int63() int64    { return int64(d.Uint64() >> 1) }
func (d *dice) Uint64() uint64 {
	*d += 0x9e3779b97f4a7c15
	x := uint64(*d)
	x = (x ^ x>>30) * 0xbf58476d1ce4e5b9
	x = (x ^ x>>27) * 0x94d049bb133111eb
	return x ^ x>>31
}

// What mutators do is picked, three things each time; when they do them, not.
func TestPickedTalesInEachWay(t *testing.T) {
	roomy(t)
	for seed := range 30 {
		r := rand.New(rand.NewSource(int64(seed)))
		mutators := 1 + seed%2
		g := tale{name: "picked", slots: empty(mutators, 2)}
		for range 3 {
			g.things = append(g.things, thing{in: max(0, r.Intn(6)-3), refs: []api.ID{own(uint64(1 + r.Intn(3))), none}})
		}
		for m := range mutators {
			g.slots[m][0] = own(uint64(1 + r.Intn(3)))
		}
		for range 3 {
			pick := dice(r.Uint64())
			g.doings = append(g.doings, func(t *testing.T, l *life) {
				again := pick
				l.lives(rand.New(&again))
			})
		}
		t.Run(fmt.Sprint(seed), func(t *testing.T) {
			t.Parallel()
			g.everyWay(t, setting{grey: 1 + seed%3, suspect: 3, work: 1})
		})
	}
}
