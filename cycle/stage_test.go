package cycle_test

import (
	"fmt"
	"math"
	"slices"
	"testing"

	"mooring/api"
	"mooring/cycle"
	"mooring/heap"
)

// stage is a point of a cycle of two mutators, whose port is the number 2: how
// one comes to it, and who is armed and has scanned there.
type stage struct {
	name    string
	comes   func(t *testing.T, c *cycle.Cycle)
	state   int
	armed   []int
	scanned []int
}

// stages are all kinds of them. With nothing held, nothing is marked in any.
func stages() []stage {
	all := []int{0, 1, 2}
	some := func(state int) func(t *testing.T, c *cycle.Cycle) {
		return func(t *testing.T, c *cycle.Cycle) {
			begins(t, c, 2)
			reaches(t, c, state)
		}
	}
	scans := func(ms ...int) func(t *testing.T, c *cycle.Cycle) {
		return func(t *testing.T, c *cycle.Cycle) {
			arms(t, c, 2)
			for _, m := range ms {
				answers(t, c, m)
			}
		}
	}
	return []stage{
		{"Idle", func(*testing.T, *cycle.Cycle) {}, idle, nil, nil},
		{"Arming", func(t *testing.T, c *cycle.Cycle) { arms(t, c, 0) }, arming, []int{2}, nil},
		{"Arming, 0 armed", func(t *testing.T, c *cycle.Cycle) { arms(t, c, 1) }, arming, []int{0, 2}, nil},
		{"Arming, 1 armed", func(t *testing.T, c *cycle.Cycle) { arms(t, c, 0); answers(t, c, 1) }, arming, []int{1, 2}, nil},
		{"Scanning", scans(), scanning, all, nil},
		{"Scanning, 0 has", scans(0), scanning, all, []int{0}},
		{"Scanning, 1 has", scans(1), scanning, all, []int{1}},
		{"Scanning, the port has", scans(2), scanning, all, []int{2}},
		{"Scanning, both mutators have", scans(1, 0), scanning, all, []int{0, 1}},
		{"Scanning, 0 and the port have", scans(2, 0), scanning, all, []int{0, 2}},
		{"Run", scans(2, 0, 1), scanning, all, all},
		{"Marking", some(marking), marking, all, all},
		{"Reaching", some(reaching), reaching, all, all},
		{"Sweeping", some(sweeping), sweeping, all, all},
	}
}

// at answers a heap with so many bare objects, and a collector that has come to
// the stage, with one unit a Step.
func (s stage) at(t *testing.T, count int) (*heap.Heap, *cycle.Cycle) {
	t.Helper()
	h := heapOf(t, 0, slices.Repeat([]thing{bare()}, count)...)
	c := setting{2, maxGrey, 3, 1}.collector(t, h)
	s.comes(t, c)
	if c.State() != s.state || h.Len() != count {
		t.Fatalf("16.2: at the stage %q, the state is %d, with %d objects", s.name, c.State(), h.Len())
	}
	return h, c
}

// marksNow tells whether what is done at the stage is to be marked.
func (s stage) marksNow() bool { return s.state != idle && s.state != sweeping }

// greys looks at whether just these of the objects are marked, with the rank 0,
// and grey.
func greys(t *testing.T, h *heap.Heap, c *cycle.Cycle, what string, want ...uint64) {
	t.Helper()
	marks(t, h, c, what, true, want...)
}

// blacks looks at whether just these are marked, with the rank 0, and not grey.
func blacks(t *testing.T, h *heap.Heap, c *cycle.Cycle, what string, want ...uint64) {
	t.Helper()
	marks(t, h, c, what, false, want...)
}

// marks looks at whether just these are marked, with the rank 0.
func marks(t *testing.T, h *heap.Heap, c *cycle.Cycle, what string, wantGrey bool, want ...uint64) {
	t.Helper()
	for serial := range h.Last() + 2 {
		rank, grey, ok := c.Mark(serial)
		wanted := slices.Contains(want, serial)
		if ok != wanted || rank != 0 || grey != (wanted && wantGrey) {
			t.Errorf("16: %s, Mark(%d) answers %d, %v, %v; marked should be %v, grey: %v", what, serial, rank, grey, ok, want, wantGrey)
		}
	}
}

// numbers are the mutators, the port, and such as are none of them.
var numbers = []int{0, 1, 2, 3, 4, 5, -1, -2, -3, 1 << 8, 1 << 32, 1<<32 + 1, math.MaxInt, math.MinInt}

// Shake at each stage, by each number: true if it is awaited, and what is held
// is Shaded if that is the scanning.
func TestShakeAtEachStage(t *testing.T) {
	for _, s := range stages() {
		for _, m := range numbers {
			h, c := s.at(t, 4)
			what := fmt.Sprintf("at the stage %q, behind a Shake of %d", s.name, m)
			is := m >= 0 && m <= 2
			isArming := is && s.state == arming && !slices.Contains(s.armed, m)
			isScanning := is && s.state == scanning && !slices.Contains(s.scanned, m)
			if got := c.Shake(m, []api.ID{own(3), own(2)}); got != (isArming || isScanning) {
				t.Fatalf("16.3: %s, that answered %v", what, got)
			}
			if isScanning {
				greys(t, h, c, what, 2, 3)
			} else {
				greys(t, h, c, what)
			}
			if c.IsArmed(m) != (isArming || slices.Contains(s.armed, m)) || c.HasScanned(m) != (isScanning || slices.Contains(s.scanned, m)) {
				t.Errorf("16.3: %s, it is armed: %v, has scanned: %v", what, c.IsArmed(m), c.HasScanned(m))
			}
		}
	}
}

// The same one once more, right behind: nobody awaits it, but one who was the
// last that was armed, and has to scan.
func TestShakeTwice(t *testing.T) {
	for _, s := range stages() {
		for m := range 3 {
			h, c := s.at(t, 4)
			what := fmt.Sprintf("at the stage %q, behind two Shakes of %d", s.name, m)
			first := c.Shake(m, []api.ID{own(1)})
			again := s.state == arming && first && len(s.armed) == 2
			if got := c.Shake(m, []api.ID{own(4), far(2, 7)}); got != again {
				t.Fatalf("16.3: %s, the second one answered %v", what, got)
			}
			switch {
			case again:
				greys(t, h, c, what, 4)
			case first && s.state == scanning:
				greys(t, h, c, what, 1)
			default:
				greys(t, h, c, what)
			}
			if met := len(c.Outs()) == 1; met != again {
				t.Errorf("16.3: %s, the Outs are %v", what, c.Outs())
			}
		}
	}
}

// What is held: in its order, none, remote ones, such as are not right and such
// as are no objects; and what is handed in stays as it is.
func TestShakeWithAllKindsOfIDs(t *testing.T) {
	h := heapOf(t, 0, bare(own(4)), bare(), bare(), bare(far(5, 5)), bare())
	c := setting{1, 2, 3, 1}.collector(t, h)
	arms(t, c, 1)
	room := []api.ID{none, own(3), far(2, 7), own(9), own(3), far(0, 1), far(maxNodes+1, 1), far(-1, 2), own(0), own(maxSerial + 1), own(math.MaxUint64), own(1), far(2, 7), own(5), far(6, 6)}
	was := slices.Clone(room)
	answers(t, c, 0, room[:14]...)
	if !slices.Equal(room, was) {
		t.Errorf("R2: Shake turned what it was handed into %v", room)
	}
	greys(t, h, c, "behind a Shake of 0", 1, 3, 5)
	if outs := c.Outs(); !slices.Equal(outs, []api.Out{{ID: far(2, 7), Rank: 0}}) {
		t.Errorf("16.3: behind a Shake of 0, the Outs are %v", outs)
	}
	for i := range room {
		room[i] = own(2)
	}
	answers(t, c, 1, far(2, 9))
	walks(t, h, c, "Marking: 0 . 0g 0g 0g", "Marking: 0 . 0g 0 0g", "Marking: 0 . 0 0 0g", "Marking: 0 . 0 0 0g")
	if outs := c.Outs(); !slices.Equal(outs, []api.Out{{ID: far(2, 7), Rank: 0}, {ID: far(2, 9), Rank: 0}, {ID: far(5, 5), Rank: 0}}) {
		t.Errorf("16.3: at the end, the Outs are %v", outs)
	}
	if freed, _ := ends(t, c); !slices.Equal(freed, []uint64{2}) {
		t.Errorf("16.5: %v were freed", freed)
	}
}

// Nobody scans ahead of the last one that is armed: what one holds who is armed
// is not Shaded.
func TestArmedAloneShadesNothing(t *testing.T) {
	h := heapOf(t, 0, bare(), bare())
	c := setting{maxMutators, 4, 3, 8}.collector(t, h)
	c.Step(0)
	for m := maxMutators - 1; m >= 0; m-- {
		answers(t, c, m, own(1), far(2, 2))
	}
	greys(t, h, c, "with all armed")
	if len(c.Outs()) != 0 {
		t.Errorf("16.3: with all armed, the Outs are %v", c.Outs())
	}
}

// Store at each stage, by each number.
func TestStoreAtEachStage(t *testing.T) {
	for _, s := range stages() {
		for _, m := range numbers {
			h, c := s.at(t, 4)
			was := told(h, c)
			what := fmt.Sprintf("at the stage %q, behind a Store of %d", s.name, m)
			c.Store(m, own(2), own(3))
			switch {
			case !s.marksNow() || !slices.Contains(s.armed, m):
				if now := told(h, c); now != was {
					t.Errorf("16.4: %s, told is\n%s\nnot\n%s", what, now, was)
				}
			case slices.Contains(s.scanned, m):
				greys(t, h, c, what, 2)
			default:
				greys(t, h, c, what, 2, 3)
			}
		}
	}
}

// Store of remote ones, and of none, and of such as are no objects.
func TestStoreOfAllKindsOfIDs(t *testing.T) {
	odd := []api.ID{none, own(9), own(0), far(0, 2), far(maxNodes+1, 2), own(maxSerial + 1)}
	for _, s := range stages() {
		h, c := s.at(t, 3)
		was := told(h, c)
		for _, x := range odd {
			for _, y := range odd {
				c.Store(0, x, y)
			}
		}
		if now := told(h, c); now != was {
			t.Errorf("16.4: at the stage %q, Stores of nothing turned\n%s\ninto\n%s", s.name, was, now)
		}
		c.Store(0, far(2, 7), none)
		c.Store(0, none, far(4, 4))
		var want []api.Out
		if s.marksNow() && slices.Contains(s.armed, 0) {
			want = append(want, api.Out{ID: far(2, 7)})
			if !slices.Contains(s.scanned, 0) {
				want = append(want, api.Out{ID: far(4, 4)})
			}
		}
		if outs := c.Outs(); !slices.Equal(outs, want) {
			t.Errorf("16.4: at the stage %q, behind Stores of remote ones the Outs are %v, not %v", s.name, outs, want)
		}
	}
}

// Born at each stage, by each number: an object that is there already, or one
// that was made right now.
func TestBornAtEachStage(t *testing.T) {
	for _, s := range stages() {
		for _, m := range numbers {
			for _, fresh := range []bool{false, true} {
				h, c := s.at(t, 3)
				serial := uint64(2)
				if fresh {
					serial = add(t, h, bare(own(3)))
				}
				was := told(h, c)
				what := fmt.Sprintf("at the stage %q, behind a Born of %d", s.name, m)
				c.Born(m, serial)
				switch {
				case !s.marksNow() || !slices.Contains(s.armed, m):
					if now := told(h, c); now != was {
						t.Errorf("16.4: %s, told is\n%s\nnot\n%s", what, now, was)
					}
				case s.state == arming:
					greys(t, h, c, what, serial)
				default:
					blacks(t, h, c, what, serial)
				}
			}
		}
	}
}

// Born of one that is marked already, and of such as are no objects.
func TestBornOfOthers(t *testing.T) {
	for _, s := range stages() {
		h, c := s.at(t, 3)
		was := told(h, c)
		for _, serial := range []uint64{0, 4, 9, maxSerial, maxSerial + 1, math.MaxUint64} {
			for _, m := range numbers {
				c.Born(m, serial)
			}
		}
		if now := told(h, c); now != was {
			t.Errorf("16.4: at the stage %q, Born of no object turned\n%s\ninto\n%s", s.name, was, now)
		}
		c.Touch(own(3))
		was = told(h, c)
		c.Born(2, 3)
		if now := told(h, c); s.marksNow() && now != was {
			t.Errorf("16.4: at the stage %q, Born of one that is grey turned\n%s\ninto\n%s", s.name, was, now)
		}
	}
}

// While it is Arming, what is born is to be gone through; behind that, not.
func TestBornWhileArmingShades(t *testing.T) {
	h := heapOf(t, 0, bare(own(2)), bare())
	c := simple.collector(t, h)
	c.Step(0)
	c.Born(1, 1)
	greys(t, h, c, "behind a Born of the port", 1)
	c.Born(0, 2)
	greys(t, h, c, "behind one of a mutator that is not armed", 1)
	answers(t, c, 0)
	c.Born(0, 2)
	shows(t, h, c, "behind Arming", "Scanning: 0g 0")
}

// Touch at each stage, of one of this node and of a remote one.
func TestTouchAtEachStage(t *testing.T) {
	for _, s := range stages() {
		h, c := s.at(t, 3)
		was := told(h, c)
		c.Touch(own(2))
		what := fmt.Sprintf("at the stage %q, behind a Touch", s.name)
		if s.marksNow() {
			greys(t, h, c, what, 2)
		} else if now := told(h, c); now != was {
			t.Errorf("16.4: %s of {%d 2}, told is\n%s\nnot\n%s", what, here, now, was)
		}
		h, c = s.at(t, 3)
		was = told(h, c)
		c.Touch(far(2, 2))
		if s.marksNow() || s.state == sweeping {
			greys(t, h, c, what)
			if outs := c.Outs(); !slices.Equal(outs, []api.Out{{ID: far(2, 2), Rank: 0}}) {
				t.Errorf("16.4: %s of {2 2}, the Outs are %v", what, outs)
			}
		} else if now := told(h, c); now != was {
			t.Errorf("16.4: %s of {2 2}, told is\n%s\nnot\n%s", what, now, was)
		}
	}
}

// Touch of none, and of such as are not right or no objects, does nothing.
func TestTouchOfNothing(t *testing.T) {
	for _, s := range stages() {
		h, c := s.at(t, 3)
		was := told(h, c)
		for _, x := range []api.ID{none, own(0), own(4), own(maxSerial + 1), far(0, 2), far(-1, 2), far(maxNodes+1, 2), far(2, 0), far(2, maxSerial+1), far(math.MaxInt, math.MaxUint64)} {
			c.Touch(x)
		}
		if now := told(h, c); now != was {
			t.Errorf("16.4: at the stage %q, Touch of nothing turned\n%s\ninto\n%s", s.name, was, now)
		}
	}
}

// While it is Sweeping, what is Touched of this node goes, and a remote one that
// was met with another rank has the rank 0 from then on.
func TestTouchWhileSweeping(t *testing.T) {
	h := heapOf(t, 0, held(6, far(2, 7)), bare(), bare())
	c := simple.collector(t, h)
	begins(t, c, 1)
	reaches(t, c, sweeping)
	c.Touch(own(3))
	c.Touch(own(1))
	shows(t, h, c, "behind Touches", "Sweeping: 6 . .")
	c.Touch(far(2, 7))
	c.Touch(far(2, 8))
	c.Store(0, own(3), far(2, 9))
	c.Born(0, 2)
	walks(t, h, c, "Sweeping: 6 . .", "Sweeping: 6 x . [2]", "Sweeping: 6 x x [3]", "Idle: 6 x x !")
	if outs := c.Outs(); !slices.Equal(outs, []api.Out{{ID: far(2, 7), Rank: 0}, {ID: far(2, 8), Rank: 0}}) {
		t.Errorf("16.4: the Outs are %v", outs)
	}
	c.Touch(far(2, 1))
	if outs := c.Outs(); len(outs) != 2 {
		t.Errorf("16.4: behind the end, the Outs are %v", outs)
	}
}

// What was Shaded is gone through: objects to which it leads stay, whatever told
// of it.
func TestWhatWasToldIsGoneThrough(t *testing.T) {
	for _, one := range []struct {
		name  string
		tells func(c *cycle.Cycle)
	}{
		{"Touch", func(c *cycle.Cycle) { c.Touch(own(1)) }},
		{"Store of the old one", func(c *cycle.Cycle) { c.Store(0, own(1), none) }},
	} {
		for _, state := range []int{marking, reaching} {
			h := heapOf(t, 0, bare(own(2)), bare(own(3), far(7, 7)), bare(), bare())
			c := setting{1, 1, 3, 1}.collector(t, h)
			begins(t, c, 1)
			reaches(t, c, state)
			one.tells(c)
			if freed, _ := ends(t, c); !slices.Equal(freed, []uint64{4}) || len(c.Outs()) != 1 {
				t.Errorf("16.4: behind %s in the state %d, %v were freed, and the Outs are %v", one.name, state, freed, c.Outs())
			}
		}
	}
}

// What Born has Blackened is not gone through: what it leads to goes, unless
// somebody else tells of it.
func TestWhatIsBornStays(t *testing.T) {
	h := heapOf(t, 0, bare(), bare())
	c := simple.collector(t, h)
	begins(t, c, 1)
	serial := add(t, h, bare(own(2)))
	c.Born(0, serial)
	if freed, _ := ends(t, c); !slices.Equal(freed, []uint64{1, 2}) {
		t.Errorf("16.4: %v were freed", freed)
	}
	begins(t, c, 1)
	if freed, _ := ends(t, c); !slices.Equal(freed, []uint64{serial}) {
		t.Errorf("16.5: in the next cycle, %v were freed", freed)
	}
}
