package reach_test

import (
	"fmt"
	"slices"
	"testing"

	"mooring/api"
	"mooring/reach"
)

// junk is an ID that no row of the tests has.
var junk = api.ID{Node: 63, Serial: 63}

// Rows are told in the order in which they began, each with the object that it
// began with, though a later one leads to more.
func TestRowsInTheOrderInWhichTheyBegan(t *testing.T) {
	s := sideOf(t, 0,
		held(9, 9, own(3), far(7, 7)),
		held(1, 9, own(1)),
		held(0, 9, far(2, 9)),
		held(5, 9),
		held(2, 9, own(4), own(2)),
	).meets(9, far(7, 7), far(2, 9))
	r := s.reacher(t, 3)
	runs(t, r)
	ends(t, r, "1:2.9,7.7 2:2.9,7.7 4: 5:2.9,7.7")
}

// Outs rise by node and then by serial, however they were met, and each is there
// once, though it was met by several references, and by several objects.
func TestOutsRiseAndStandOnce(t *testing.T) {
	outs := []api.ID{far(1, 2), far(1, maxSerial), far(2, 1), far(2, 7), far(maxNodes, 1), far(maxNodes, maxSerial)}
	want := drawnRow(1, outs)
	each := func(l []api.ID) {
		s := sideOf(t, 0, held(5, 5, append(to(2), l[:3]...)...), held(0, 5, l...)).meets(9, outs...)
		r := s.reacher(t, 3)
		runs(t, r)
		shows(t, r, fmt.Sprint("of ", l), want)
	}
	orders(slices.Clone(outs), len(outs), each)
	each([]api.ID{outs[5], outs[0], outs[4], outs[1], outs[3], outs[2], outs[5]})

	s := sideOf(t, 0, held(5, 5, far(2, 7), far(2, 7), own(2), far(2, 7)), held(0, 5, far(2, 7), far(2, 1), far(2, 7), far(2, 1))).meets(9, outs...)
	r := s.reacher(t, 3)
	runs(t, r)
	ends(t, r, "1:2.1,2.7")
}

// orders does f with the first n in each order.
func orders(l []api.ID, n int, f func(l []api.ID)) {
	if n == 0 {
		f(l)
		return
	}
	for i := range n {
		l[i], l[n-1] = l[n-1], l[i]
		orders(l, n-1, f)
		l[i], l[n-1] = l[n-1], l[i]
	}
}

// A row may have as many Outs as there are references.
func TestManyOuts(t *testing.T) {
	var things []thing
	var outs []api.ID
	for s := range uint64(maxObjects) {
		o := held(0, 9, own(1+(s+1)%maxObjects))
		for i := range maxFields - 1 {
			x := far(10+int(s*7)%50, 1000-10*s-uint64(i))
			o.refs = append(o.refs, x)
			outs = append(outs, x)
		}
		things = append(things, o)
	}
	things[30].in = 1
	s := sideOf(t, 0, things...).meets(9, outs...)
	r := s.reacher(t, 3)
	runs(t, r)
	want := drawnRow(31, rising(outs))
	if len(rising(outs)) != maxObjects*(maxFields-1) {
		t.Fatal("the test itself: some Outs are the same")
	}
	ends(t, r, want)
}

// A later row has what an earlier one has reached too: objects, and Outs.
func TestALaterRowHasItToo(t *testing.T) {
	s := sideOf(t, 0, held(5, 5, own(3)), held(5, 5, own(3)), held(0, 5, own(4), far(2, 7)), held(5, 5, far(2, 8), own(1))).meets(9, far(2, 7), far(2, 8))
	r := s.reacher(t, 3)
	runs(t, r)
	ends(t, r, "1:2.7,2.8 2:2.7,2.8 4:2.7,2.8")
}

// Nothing of a row comes into the next one.
func TestALaterRowHasNothingElse(t *testing.T) {
	s := sideOf(t, 0, held(5, 5, own(4), far(2, 7)), held(5, 5, far(2, 9)), held(5, 5), held(0, 5, far(2, 8))).meets(9, far(2, 7), far(2, 8), far(2, 9))
	r := s.reacher(t, 3)
	runs(t, r)
	ends(t, r, "1:2.7,2.8 2:2.9 3:")
}

// spoil writes into all that an answer has, spare room too.
func spoil(rows []api.Reach) {
	for i := range rows {
		outs := rows[i].Outs[:cap(rows[i].Outs)]
		for k := range outs {
			outs[k] = junk
		}
	}
	rows = rows[:cap(rows)]
	for i := range rows {
		rows[i] = api.Reach{In: 99, Outs: []api.ID{junk}}
	}
}

// Writing into what Rows handed out, at each point, changes no later answer, and
// no later row.
func TestWritingIntoAnAnswer(t *testing.T) {
	a, b := twinOf(t, 3, several(t)), twinOf(t, 3, several(t))
	for a.step(t) {
		spoil(a.r.Rows())
		a.holds(t)
		b.step(t)
		b.holds(t)
	}
	for range 3 {
		spoil(a.r.Rows())
		a.holds(t)
	}
	a.begin(7)
	for a.step(t) {
		spoil(a.r.Rows())
	}
	a.holds(t)
	b.holds(t)
}

// answer is what Rows handed out, and how all of it was, spare room too.
type answer struct {
	rows []api.Reach
	was  string
}

// answerOf asks for Rows, and writes into the spare room.
func answerOf(r *reach.Reacher) answer {
	rows := r.Rows()
	for i := range rows {
		spare := rows[i].Outs[len(rows[i].Outs):cap(rows[i].Outs)]
		for k := range spare {
			spare[k] = junk
		}
	}
	spare := rows[len(rows):cap(rows)]
	for i := range spare {
		spare[i] = api.Reach{In: 99}
	}
	return answer{rows, allOf(rows)}
}

// allOf answers all of a list of rows, spare room too, as a text.
func allOf(rows []api.Reach) string {
	l := ""
	for _, w := range rows[:cap(rows)] {
		l += fmt.Sprint(w.In, len(w.Outs), w.Outs[:cap(w.Outs)])
	}
	return l
}

// What Rows handed out stays as it was, whatever Steps and Begins come behind
// it, and whatever else is asked.
func TestAnAnswerStays(t *testing.T) {
	w := twinOf(t, 3, several(t))
	var all []answer
	for _, bound := range []int{3, 8, -1, 3} {
		w.begin(bound)
		for range 30 {
			all = append(all, answerOf(w.r))
			w.step(t)
			for _, a := range all {
				if now := allOf(a.rows); now != a.was {
					t.Fatalf("R2: what was handed out as\n%s\nis\n%s", a.was, now)
				}
			}
		}
	}
}

// No two lists of one answer, nor of two, share any memory.
func TestNoTwoListsShareAny(t *testing.T) {
	s := several(t)
	r := s.reacher(t, 0)
	runs(t, r)
	one, two := r.Rows(), r.Rows()
	if len(one) < 3 {
		t.Fatal("the test itself: too few rows")
	}
	lists := [][]api.ID{}
	for _, w := range slices.Concat(one, two) {
		lists = append(lists, w.Outs[:cap(w.Outs)])
	}
	for i, l := range lists {
		for k := range l {
			l[k] = api.ID{Node: 100 + i, Serial: uint64(k)}
		}
	}
	for i, l := range lists {
		for k, x := range l {
			if x != (api.ID{Node: 100 + i, Serial: uint64(k)}) {
				t.Fatalf("R2: the list %d shares memory with another: %v", i, l)
			}
		}
	}
	spoil(one)
	if two[0].In != 1 || two[1].In != 3 || two[2].In != 4 {
		t.Errorf("R2: two answers share memory: %v", two)
	}
}

// Appending to a list that was handed out changes nothing else.
func TestAppendingToAnAnswer(t *testing.T) {
	w := twinOf(t, 3, several(t))
	for w.step(t) {
		rows := w.r.Rows()
		for i := range rows {
			_ = append(rows[i].Outs, junk, junk, junk)
		}
		_ = append(rows, api.Reach{In: 99, Outs: []api.ID{junk}})
		for i := range rows {
			if slices.Contains(rows[i].Outs, junk) {
				t.Fatalf("R2: lists of one answer share memory: %v", rows)
			}
		}
		w.holds(t)
	}
	w.holds(t)
}

// What the heap hands out, and holds, is not kept: written over behind a Step, it
// is not seen in the row.
func TestARowKeepsNothingOfTheHeap(t *testing.T) {
	s := sideOf(t, 0, held(5, 5, far(2, 7), far(2, 8))).meets(9, far(2, 7), far(2, 8), far(2, 9))
	r := s.reacher(t, 3)
	walks(t, r, "", "")
	s.h.SetRef(1, 0, far(2, 9))
	s.h.SetRef(1, 1, none)
	walks(t, r, "1:2.7,2.8")
	s.p.Turn()
	s.h.Free(1)
	ends(t, r, "1:2.7,2.8")
}
