package sweep_test

import (
	"fmt"
	"math/rand"
	"slices"
	"testing"

	"mooring/api"
)

// How an object is when it is met.
const (
	gone = iota
	plain
	black
	grey
	kinds
)

// build answers a side with an object of each of these kinds.
func build(t *testing.T, last uint64, all []int) side {
	t.Helper()
	s := sideOf(t, last)
	for i, kind := range all {
		rank := (7*i + 3) % (maxDist + 1)
		switch kind {
		case black:
			s.add(t, dark(rank))
		case grey:
			s.add(t, light(rank).held(1))
		default:
			s.add(t, bare().held(i%3))
		}
	}
	for i, kind := range all {
		if kind == gone {
			s.h.Free(last + 1 + uint64(i))
		}
	}
	return s
}

// sweeps sweeps a side with objects of these kinds, and holds what was freed, and
// what stays, against what 15.2 asks for.
func sweeps(t *testing.T, last uint64, all []int) {
	t.Helper()
	s := build(t, last, all)
	var freed []uint64
	count := 0
	for i, kind := range all {
		if kind != gone {
			count++
		}
		if kind == plain {
			freed = append(freed, last+1+uint64(i))
		}
	}
	got, n := runs(t, s.sweeper(t))
	if !slices.Equal(got, freed) || n != count || s.h.Len() != count-len(freed) {
		t.Fatalf("15.2: of %v behind %d, %v were freed in %d Steps, not %v in %d", all, last, got, n, freed, count)
	}
	for i, kind := range all {
		serial := last + 1 + uint64(i)
		_, there := s.h.Object(serial)
		rank, isGrey, ok := s.p.Mark(serial)
		stays := kind == black || kind == grey
		if there != stays || ok != stays || isGrey != (kind == grey) || stays && rank != (7*i+3)%(maxDist+1) {
			t.Fatalf("15.2: of %v, at the end %d is %v, marked %d, %v, %v", all, serial, there, rank, isGrey, ok)
		}
	}
}

// Every heap of up to five objects, each gone, not marked, marked, or grey.
func TestEverySmallHeap(t *testing.T) {
	heaps := 1
	for count := range 6 {
		for n := range heaps {
			all := make([]int, count)
			for i := range all {
				all[i] = n % kinds
				n /= kinds
			}
			sweeps(t, uint64(count*3), all)
		}
		heaps *= kinds
	}
}

// As many objects as there may be: all of one kind, all but one, and of all
// kinds.
func TestAFullHeap(t *testing.T) {
	for one := range kinds {
		all := slices.Repeat([]int{one}, maxObjects)
		sweeps(t, 0, all)
		for other := range kinds {
			for _, at := range []int{0, 1, 31, maxObjects - 1} {
				all[at] = other
				sweeps(t, 9, all)
				all[at] = one
			}
		}
	}
	for seed := range int64(100) {
		r := rand.New(rand.NewSource(seed))
		all := make([]int, maxObjects)
		for i := range all {
			all[i] = r.Intn(kinds)
		}
		sweeps(t, uint64(r.Int63n(maxSerial-maxObjects)), all)
	}
}

// A heap in which one object may be.
func TestOneObject(t *testing.T) {
	for kind := range kinds {
		sweeps(t, 0, []int{kind})
		sweeps(t, 41, []int{kind})
		sweeps(t, maxSerial-1, []int{kind})
	}
}

// A heap whose serials lie far from one another.
func TestSerialsFarApart(t *testing.T) {
	s := sideOf(t, 0)
	var all []uint64
	for k := range 30 {
		all = append(all, s.add(t, bare()))
		for range k * k {
			s.h.Free(s.add(t, bare()))
		}
	}
	freed, n := runs(t, s.sweeper(t))
	if !slices.Equal(freed, all) || n != len(all) || s.h.Len() != 0 {
		t.Errorf("15.2: of %v, %v were freed in %d Steps", all, freed, n)
	}
}

// Over many rounds of one sweeper, in which objects are made, marked and freed
// by others, no serial that was freed is told again, and each is told that is
// not there any more and was not freed by others.
func TestNoSerialIsToldAgain(t *testing.T) {
	for seed := range int64(40) {
		r := rand.New(rand.NewSource(seed))
		s := sideOf(t, uint64(seed))
		x := s.sweeper(t)
		left := map[uint64]bool{} // what is there, as the test has it
		for range 60 {
			for range r.Intn(12) {
				if s.h.Len() < maxObjects {
					left[s.add(t, thing{marked: r.Intn(2) == 0, rank: r.Intn(9)})] = true
				}
			}
			if serial := s.first + uint64(r.Intn(100)); s.h.Free(serial) == api.OK {
				delete(left, serial)
			}
			s.p.Forget(s.first + uint64(r.Intn(100)))
			x.Begin()
			freed, _ := runs(t, x)
			for _, serial := range freed {
				if !left[serial] {
					t.Fatalf("15.2: %d was told, which was not there", serial)
				}
				delete(left, serial)
			}
		}
		for serial := s.first; serial <= s.h.Last(); serial++ {
			if _, ok := s.h.Object(serial); ok != left[serial] {
				t.Fatalf("15.2: %d is there: %v, told was %v", serial, ok, !left[serial])
			}
		}
	}
}

// What is told is rising, and told once, also with somebody else about.
func TestToldRising(t *testing.T) {
	for seed := range int64(200) {
		r := rand.New(rand.NewSource(seed))
		w := twinOf(t, uint64(seed), randomThings(r, 1+r.Intn(20), uint64(seed))...)
		ahead, end := uint64(0), w.b.h.Last()
		for {
			serial, ok := w.step(t)
			if !ok {
				break
			}
			if serial != 0 && (serial <= ahead || serial > end) {
				t.Fatalf("15.2: %d was told behind %d, with the end %d", serial, ahead, end)
			}
			ahead = max(ahead, serial)
			w.meddle(t, r, r.Intn(18))
		}
		w.drains(t)
	}
}

// Behind a whole round all that stays is marked, or was made behind Begin; a
// second round frees nothing of what is marked still.
func TestASecondRound(t *testing.T) {
	for seed := range int64(60) {
		r := rand.New(rand.NewSource(seed))
		s := sideOf(t, 0, randomThings(r, r.Intn(30), 0)...)
		x := s.sweeper(t)
		runs(t, x)
		was := s.told()
		x.Begin()
		if freed, n := runs(t, x); len(freed) != 0 || n != s.h.Len() || s.told() != was {
			t.Fatalf("15.2: a second round freed %v in %d Steps, and turned\n%s\ninto\n%s", freed, n, was, s.told())
		}
		s.p.Turn()
		x.Begin()
		count := s.h.Len()
		if freed, n := runs(t, x); len(freed) != count || n != count || s.h.Len() != 0 || s.h.Used() != 0 {
			t.Fatalf("15.2: behind a Turn %v were freed of %d in %d Steps", freed, count, n)
		}
	}
}

// randomID answers one of all kinds: mostly of the tests' node, also of others,
// none, and such as are not right.
func randomID(r *rand.Rand, count int, last uint64) api.ID {
	switch r.Intn(12) {
	case 0, 1:
		return far(4+r.Intn(3), 1+uint64(r.Intn(4)))
	case 2:
		return none
	case 3:
		return far(maxNodes+1, 1)
	}
	return own(last + uint64(r.Intn(count+2)))
}

// randomThings answers so many objects of all kinds.
func randomThings(r *rand.Rand, count int, last uint64) []thing {
	var l []thing
	for range count {
		o := thing{marked: r.Intn(2) == 0, rank: r.Intn(maxDist + 1), grey: r.Intn(2) == 0, in: r.Intn(3)}
		for range r.Intn(4) {
			if x := randomID(r, count, last); x.Node <= maxNodes && x.Serial <= maxSerial && (x == none || x.Serial > 0) {
				o.refs = append(o.refs, x)
			}
		}
		l = append(l, o)
	}
	return l
}

// A map's order is another one each time: none of it is to be seen.
func TestTheSameAgain(t *testing.T) {
	run := func() []string {
		r := rand.New(rand.NewSource(5))
		s := sideOf(t, 0, randomThings(r, 40, 0)...)
		x := s.sweeper(t)
		var l []string
		for range 50 {
			serial, ok := x.Step()
			l = append(l, fmt.Sprint(serial, ok, s.drawn()))
		}
		return l
	}
	first := run()
	for range 5 {
		if again := run(); !slices.Equal(first, again) {
			t.Fatalf("R4: told the same, a sweeper does %v, then %v", first, again)
		}
	}
}
