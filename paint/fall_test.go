package paint_test

import (
	"math/rand"
	"testing"

	"mooring/api"
)

// randomTwin answers a twin over a heap whose objects lead anywhere.
func randomTwin(t *testing.T, r *rand.Rand) *twin {
	t.Helper()
	n := 1 + r.Intn(20)
	lists := make([][]api.ID, n)
	for k := range lists {
		for range r.Intn(maxFields + 1) {
			x := own(uint64(1 + r.Intn(n+1)))
			if r.Intn(4) == 0 {
				x = farIDs[r.Intn(len(farIDs))]
			}
			lists[k] = append(lists[k], x)
		}
	}
	return twinOf(t, heapOf(t, lists...), 1+r.Intn(6))
}

// ranks answers the ranks that a paint tells, by IDs.
func (w *twin) ranks() map[api.ID]int {
	all := map[api.ID]int{}
	for s := uint64(1); s <= w.h.Last(); s++ {
		if rank, _, ok := w.p.Mark(s); ok {
			all[own(s)] = rank
		}
	}
	for _, o := range w.p.Outs() {
		all[o.ID] = o.Rank
	}
	return all
}

// As long as nothing is Forgotten or freed, what is marked stays so.
func TestRanksOnlyFall(t *testing.T) {
	for seed := range int64(60) {
		r := rand.New(rand.NewSource(seed))
		w := randomTwin(t, r)
		was := w.ranks()
		for range 120 {
			switch s := w.randomSerial(r); r.Intn(6) {
			case 0:
				w.blacken(s)
			case 1, 2:
				w.scan(t, s)
			case 3:
				w.pop(t)
				w.rest()
			default:
				w.shade(w.randomID(r), r.Intn(maxDist+5)-2)
			}
			now := w.ranks()
			for x, rank := range was {
				if after, ok := now[x]; !ok || after > rank {
					t.Fatalf("11.5: within a turn, the rank of %v was %d, and is %d, %v", x, rank, after, ok)
				}
			}
			was = now
		}
		w.drains(t)
	}
}

// scanAll Scans till nothing is grey, the stack's first or last; those that
// found no room are looked for.
func (w *twin) scanAll(t *testing.T, r *rand.Rand) {
	t.Helper()
	for again := true; again; {
		again = false
		for _, k := range r.Perm(int(w.h.Last())) {
			again = w.scan(t, uint64(1+k)) || again
			if s, ok := w.pop(t); ok && r.Intn(2) == 0 {
				again = w.scan(t, s) || again
			}
		}
	}
	for s := uint64(1); s <= w.h.Last(); s++ {
		if _, grey, _ := w.p.Mark(s); grey {
			t.Fatalf("the test itself: %d is still grey", s)
		}
	}
}

// leads holds what follows of the references of one that was Scanned at its
// last rank.
func (w *twin) leads(t *testing.T, serial uint64) {
	t.Helper()
	rank, _, ok := w.p.Mark(serial)
	o, there := w.h.Object(serial)
	if !ok || !there {
		return
	}
	all := w.ranks()
	for _, x := range o.Refs {
		if x == none || x.Node == here && !w.has(x.Serial) {
			continue
		}
		if to, ok := all[x]; !ok || to > rank {
			t.Fatalf("11.5: %d, Scanned with the rank %d, leads to %v with %d, %v", serial, rank, x, to, ok)
		}
	}
}

func TestWhatLeadsWhereWhenNothingIsGrey(t *testing.T) {
	for seed := range int64(80) {
		r := rand.New(rand.NewSource(seed))
		w := randomTwin(t, r)
		for range 1 + r.Intn(3) {
			w.turn()
			for range 1 + r.Intn(4) {
				w.shade(w.randomID(r), r.Intn(maxDist+1))
				if r.Intn(2) == 0 {
					w.scanAll(t, r)
				}
			}
			w.scanAll(t, r)
			w.h.Free(w.randomSerial(r))
			for s := uint64(1); s <= w.h.Last(); s++ {
				w.leads(t, s)
			}
			w.holds(t)
		}
	}
}

// One that was Blackened was never Scanned: it leads anywhere, the others not.
func TestWhatLeadsWhereBesideBlackenedOnes(t *testing.T) {
	for seed := range int64(40) {
		r := rand.New(rand.NewSource(seed))
		w := randomTwin(t, r)
		black := w.randomSerial(r)
		w.blacken(black)
		w.shade(w.randomID(r), 1+r.Intn(maxDist))
		w.shade(w.randomID(r), 1+r.Intn(maxDist))
		w.scanAll(t, r)
		for s := uint64(1); s <= w.h.Last(); s++ {
			if s != black {
				w.leads(t, s)
			}
		}
		w.holds(t)
	}
}

// least answers for each ID the least rank from which it can be reached.
func (w *twin) least(roots map[api.ID]int) map[api.ID]int {
	all := map[api.ID]int{}
	var todo []api.Out
	for x, rank := range roots {
		todo = append(todo, api.Out{ID: x, Rank: rank})
	}
	for len(todo) > 0 {
		o := todo[len(todo)-1]
		todo = todo[:len(todo)-1]
		was, ok := all[o.ID]
		if o.ID == none || o.ID.Node == here && !w.has(o.ID.Serial) || ok && was <= o.Rank {
			continue
		}
		all[o.ID] = o.Rank
		if o.ID.Node != here {
			continue
		}
		object, _ := w.h.Object(o.ID.Serial)
		for _, x := range object.Refs {
			todo = append(todo, api.Out{ID: x, Rank: o.Rank})
		}
	}
	return all
}

// When nothing is grey, all that can be reached is marked or met, with the
// least rank from which it can be; nothing else is.
func TestAllThatCanBeReached(t *testing.T) {
	for seed := range int64(80) {
		r := rand.New(rand.NewSource(seed))
		w := randomTwin(t, r)
		w.turn()
		roots := map[api.ID]int{}
		for range 1 + r.Intn(4) {
			x, rank := own(uint64(1+r.Intn(int(w.h.Last())))), r.Intn(maxDist+1)
			if was, ok := roots[x]; !ok || rank < was {
				roots[x] = rank
			}
			w.shade(x, rank)
			if r.Intn(2) == 0 {
				w.scanAll(t, r)
			}
		}
		w.scanAll(t, r)
		want, got := w.least(roots), w.ranks()
		if len(got) != len(want) {
			t.Fatalf("11.5: from %v, %d are marked or met, not %d", roots, len(got), len(want))
		}
		for x, rank := range want {
			if to, ok := got[x]; !ok || to != rank {
				t.Fatalf("11.5: from %v, %v has the rank %d, %v, not %d", roots, x, to, ok, rank)
			}
		}
	}
}
