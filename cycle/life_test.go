package cycle_test

import (
	"fmt"
	"math/rand"
	"slices"
	"testing"

	"mooring/api"
	"mooring/cycle"
	"mooring/heap"
)

// life is a heap that is collected while mutators do what 16.5 lets them do.
type life struct {
	setting
	h     *heap.Heap
	c     *cycle.Cycle
	slots [][]api.ID        // of each mutator
	lost  map[uint64]uint64 // what nothing reaches any more, and how many cycles had begun by then
	after [][]any           // what was done, to be told where something is wrong
}

// life answers one of at most so many objects, with these; of them mutators hold
// some: of each one its slots.
func (s setting) life(t *testing.T, objects int, slots [][]api.ID, things ...thing) *life {
	h, e := heap.New(here, maxCells, objects, 0)
	if e != api.OK {
		t.Fatalf("the test itself: no heap: %d", e)
	}
	for _, o := range things {
		add(t, h, o)
	}
	l := &life{setting: s, h: h, lost: map[uint64]uint64{}}
	l.c = s.collector(t, l.h)
	for m := range s.mutators {
		l.slots = append(l.slots, slices.Clone(slots[m]))
	}
	return l
}

// did keeps what was done.
func (l *life) did(parts ...any) { l.after = append(l.after, parts) }

// tail answers what was done last.
func (l *life) tail() []string {
	var all []string
	for _, parts := range l.after[max(0, len(l.after)-40):] {
		all = append(all, fmt.Sprint(parts...))
	}
	return all
}

// reached answers all that can be reached from a slot, or from one whose In is
// above 0.
func (l *life) reached() map[uint64]bool {
	var next []api.ID
	for _, row := range l.slots {
		next = append(next, row...)
	}
	for serial, ok := l.h.Next(0); ok; serial, ok = l.h.Next(serial) {
		if o, _ := l.h.Object(serial); o.In > 0 {
			next = append(next, own(serial))
		}
	}
	seen := map[uint64]bool{}
	for len(next) > 0 {
		x := next[len(next)-1]
		next = next[:len(next)-1]
		if x.Node != here || seen[x.Serial] {
			continue
		}
		seen[x.Serial] = true
		o, _ := l.h.Object(x.Serial)
		next = append(next, o.Refs...)
	}
	return seen
}

// looks looks at what nothing reaches any more.
func (l *life) looks(t *testing.T) {
	seen := l.reached()
	for serial, ok := l.h.Next(0); ok; serial, ok = l.h.Next(serial) {
		_, isLost := l.lost[serial]
		if isLost && seen[serial] {
			t.Fatalf("the test itself: behind %v, %d can be reached again", l.tail(), serial)
		}
		if !isLost && !seen[serial] {
			l.lost[serial] = l.c.Turns()
		}
	}
}

// step is a Step: it frees nothing that can be reached, and all that it frees is
// gone, and nothing else.
func (l *life) step(t *testing.T) bool {
	l.did("Step in ", l.c.State())
	mayFree, count := l.work > 1 || l.c.State() == sweeping, l.h.Len()
	var seen map[uint64]bool
	if mayFree {
		seen = l.reached()
	}
	freed, over := l.c.Step(0)
	if !mayFree && len(freed) > 0 {
		t.Fatalf("16.2: with %+v, behind %v, %v were freed", l.setting, l.tail(), freed)
	}
	for _, serial := range freed {
		if seen[serial] {
			t.Fatalf("16.5: with %+v, behind %v, %d was freed, which can be reached", l.setting, l.tail(), serial)
		}
		delete(l.lost, serial)
	}
	for serial := range seen {
		if _, ok := l.h.Object(serial); !ok {
			t.Fatalf("16.5: with %+v, behind %v, %d is gone, which can be reached", l.setting, l.tail(), serial)
		}
	}
	if count-l.h.Len() != len(freed) || len(freed) > l.work {
		t.Fatalf("16.2: with %+v, behind %v, %v were told, and %d are gone", l.setting, l.tail(), freed, count-l.h.Len())
	}
	if over {
		l.swept(t)
	}
	return over
}

// swept looks at whether anything stays, at a cycle's end, that has been lost
// since ahead of the cycle before this one.
func (l *life) swept(t *testing.T) {
	for serial, at := range l.lost {
		if l.c.Turns() >= at+2 {
			t.Fatalf("16.5: with %+v, behind %v, %d stays, lost since the cycle %d, at the end of the cycle %d", l.setting, l.tail(), serial, at, l.c.Turns())
		}
	}
}

// shake lets m answer with what its slots hold; the port holds nothing.
func (l *life) shake(m int) {
	l.did("Shake ", m)
	var held []api.ID
	if m < l.mutators {
		held = l.slots[m]
	}
	l.c.Shake(m, held)
}

// make lets m make an object, and hold it.
func (l *life) make(m, slot, refs int) {
	serial, e := l.h.Make(refs, 0)
	l.did(m, " makes ", serial)
	if e == api.OK {
		l.c.Born(m, serial)
		l.slots[m][slot] = own(serial)
	}
}

// copy lets m hold in a slot what another one holds.
func (l *life) copy(m, from, to int) {
	l.did(m, " copies ", l.slots[m][from])
	l.slots[m][to] = l.slots[m][from]
}

// drop lets m's slot hold none.
func (l *life) drop(m, slot int) {
	l.did(m, " drops ", l.slots[m][slot])
	l.slots[m][slot] = none
}

// load lets m hold what the object in a slot of its own holds.
func (l *life) load(m, from, field, to int) {
	if x := l.slots[m][from]; x.Node == here {
		if y, e := l.h.Ref(x.Serial, field); e == api.OK {
			l.did(m, " loads ", y, " from ", x)
			l.slots[m][to] = y
		}
	}
}

// store lets the object in a slot of m's hold what another slot holds.
func (l *life) store(m, a, field, b int, ahead bool) {
	l.writes(m, l.slots[m][a], field, l.slots[m][b], ahead)
}

// writes lets an object hold x, told by m ahead of it or right behind it.
func (l *life) writes(m int, a api.ID, field int, x api.ID, ahead bool) {
	if a.Node != here {
		return
	}
	old, e := l.h.Ref(a.Serial, field)
	if e != api.OK {
		return
	}
	l.did(m, " stores ", x, " into ", a, " over ", old)
	if ahead {
		l.c.Store(m, old, x)
	}
	l.h.SetRef(a.Serial, field, x)
	if !ahead {
		l.c.Store(m, old, x)
	}
}

// comes lets x come in through the port, into a slot. One of this node comes in
// only if others hold it.
func (l *life) comes(m, slot int, x api.ID) {
	if l.canCome(x) {
		l.did(x, " comes in for ", m)
		l.c.Touch(x)
		l.slots[m][slot] = x
	}
}

// canCome tells whether others may hold x.
func (l *life) canCome(x api.ID) bool {
	o, ok := l.h.Object(x.Serial)
	return x.Node != here || ok && o.In > 0
}

// raise lets others hold what m has in a slot.
func (l *life) raise(m, slot, in int) {
	if x := l.slots[m][slot]; x.Node == here {
		l.did(m, " hands out ", x)
		l.h.SetIn(x.Serial, in)
	}
}

// falls lets others hold an object no more.
func (l *life) falls(serial uint64) {
	l.did(serial, " falls")
	l.h.SetIn(serial, 0)
}

// portStores lets others store x into an object of theirs.
func (l *life) portStores(a uint64, field int, x api.ID, ahead bool) {
	if l.canCome(own(a)) && l.canCome(x) {
		l.c.Touch(own(a))
		l.c.Touch(x)
		l.writes(l.mutators, own(a), field, x, ahead)
	}
}

// portLoads lets others hold what an object of theirs holds.
func (l *life) portLoads(a uint64, field, in int) {
	if !l.canCome(own(a)) {
		return
	}
	l.c.Touch(own(a))
	if x, e := l.h.Ref(a, field); e == api.OK && x != none {
		l.did(x, " goes out")
		l.c.Touch(x)
		if x.Node == here {
			l.h.SetIn(x.Serial, in)
		}
	}
}

// portMakes lets others make an object.
func (l *life) portMakes(refs, in int) {
	if serial, e := l.h.Make(refs, 0); e == api.OK {
		l.did("others make ", serial)
		l.c.Born(l.mutators, serial)
		l.h.SetIn(serial, in)
	}
}

// lives does one thing that r picks.
func (l *life) lives(r *rand.Rand) {
	m, a, b := r.Intn(l.mutators), r.Intn(len(l.slots[0])), r.Intn(len(l.slots[0]))
	field, ahead, in := r.Intn(3), r.Intn(2) == 0, 1+r.Intn(maxDist)
	serial := uint64(1 + r.Intn(int(l.h.Last())+1))
	x := own(serial)
	if r.Intn(3) == 0 {
		x = far(4+r.Intn(2), uint64(1+r.Intn(5)))
	}
	switch k := r.Intn(30); {
	case k < 3:
		l.make(m, a, r.Intn(4))
	case k < 5:
		l.copy(m, a, b)
	case k < 8:
		l.drop(m, a)
	case k < 14:
		l.load(m, a, field, b)
	case k < 20:
		l.store(m, a, field, b, ahead)
	case k < 22:
		l.comes(m, a, x)
	case k < 23:
		l.raise(m, a, in)
	case k < 25:
		l.falls(serial)
	case k < 27:
		l.portStores(serial, field, x, ahead)
	case k < 29:
		l.portLoads(serial, field, in)
	default:
		l.portMakes(r.Intn(3), in)
	}
}

// rounds lets a cycle that is under way end, and so many more.
func (l *life) rounds(t *testing.T, more int) {
	most := (more + 1) * (maxDist + 3) * (maxObjects + 1) * (maxObjects + 3)
	if l.c.State() == idle {
		more--
	}
	for range most {
		for m := range l.mutators + 1 {
			if l.c.State() == arming || l.c.State() == scanning {
				l.shake(m)
			}
		}
		if l.step(t) {
			more--
		}
		if more < 0 {
			return
		}
	}
	t.Fatalf("16.6: %d Steps did not come to an end", most)
}

// cleans lets two cycles begin and end in which nobody does anything: what stays
// is just what can be reached.
func (l *life) cleans(t *testing.T) {
	l.looks(t)
	l.rounds(t, 2)
	if n := len(l.reached()); l.h.Len() != n || l.c.State() != idle {
		t.Fatalf("16.5: with %+v, behind %v, %d objects stay of which %d can be reached", l.setting, l.tail(), l.h.Len(), n)
	}
}

// settings are such of all kinds: the smallest stack and the smallest work, the
// greatest ones, and what r picks.
func settings(r *rand.Rand, seed int) setting {
	s := setting{1 + r.Intn(maxMutators), 1, r.Intn(maxDist + 1), 1}
	switch seed % 4 {
	case 1:
		s.grey, s.work = maxGrey, maxWork
	case 2:
		s.grey = 1 + r.Intn(5)
	case 3:
		s.grey, s.work = 1+r.Intn(maxGrey), 1+r.Intn(9)
	}
	return s
}

// empty are so many slots of so many mutators.
func empty(mutators, slots int) [][]api.ID {
	var l [][]api.ID
	for range mutators {
		l = append(l, make([]api.ID, slots))
	}
	return l
}

// Mutators live as they like, and answer in whatever order; at last they drop
// all, and nothing stays.
func TestNothingIsFreedThatCanBeReached(t *testing.T) {
	for seed := range 240 {
		r := rand.New(rand.NewSource(int64(seed)))
		s := settings(r, seed)
		objects := 2 + r.Intn(12)
		if seed%8 == 7 {
			objects = maxObjects
		}
		l := s.life(t, objects, empty(s.mutators, 1+r.Intn(4)))
		steps, answers := 1+r.Intn(6), 1+r.Intn(4)
		for range 700 {
			switch k := r.Intn(8 + steps + answers); {
			case k < 8:
				l.lives(r)
				l.looks(t)
			case k < 8+steps:
				l.step(t)
			default:
				l.shake(r.Intn(s.mutators + 1))
			}
		}
		l.cleans(t)
		l.dropsAll(t)
	}
}

// dropsAll lets nobody hold anything any more.
func (l *life) dropsAll(t *testing.T) {
	t.Helper()
	l.slots = empty(l.mutators, 1)
	for serial := range l.h.Last() + 1 {
		l.falls(serial)
	}
	l.cleans(t)
	if l.h.Len() != 0 || l.h.Used() != 0 {
		t.Fatalf("16.5: with %+v, behind %v, %d objects stay that nobody holds", l.setting, l.tail(), l.h.Len())
	}
}

// With one unit a Step, and as many things done between two Steps as there are
// mutators: a cycle is long, and much is turned while it goes on.
func TestMuchIsTurnedInACycle(t *testing.T) {
	for seed := range 120 {
		r := rand.New(rand.NewSource(int64(seed)))
		s := setting{1 + r.Intn(maxMutators), 1 + seed%3, 3, 1}
		l := s.life(t, 3+r.Intn(14), empty(s.mutators, 2+r.Intn(3)))
		for range 40 {
			l.lives(r)
		}
		for range 4 {
			l.looks(t)
			for over := false; !over; {
				for range s.mutators {
					l.lives(r)
				}
				l.looks(t)
				l.shake(r.Intn(s.mutators + 1))
				over = l.step(t)
			}
		}
		l.dropsAll(t)
	}
}
