package wire_test

import (
	"math"
	"slices"
	"testing"

	"mooring/api"
	"mooring/wire"
)

const top = api.MaxSerial

// checkRight holds Right, and Encode's ErrArg, against want.
func checkRight(t *testing.T, m api.Msg, want bool) {
	t.Helper()
	if got := wire.Right(m); got != want {
		t.Errorf("2.1: Right(%+v): %v", m, got)
	}
	b, e := wire.Encode(m)
	if want && (e != api.OK || len(b) == 0) {
		t.Errorf("2.2: Encode(%+v), which may be: %x %d", m, b, e)
	}
	if !want && (e != api.ErrArg || len(b) != 0) {
		t.Errorf("2.2: Encode(%+v), which may not be: %x %d", m, b, e)
	}
}

func TestRightTakesEachKind(t *testing.T) {
	for _, s := range samples() {
		checkRight(t, s.m, true)
	}
}

func TestRightOfTheExamples(t *testing.T) {
	checkRight(t, api.Msg{Kind: api.Ack, From: 1, To: 2, Call: 5}, true)
	checkRight(t, api.Msg{Kind: api.Ack, From: 1, To: 1, Call: 5}, false)
	checkRight(t, api.Msg{Kind: api.Ack, From: 1, To: 2}, false)
}

func TestRightKinds(t *testing.T) {
	checkRight(t, api.Msg{}, false)
	for _, s := range samples() {
		for _, kind := range []int{0, 12, -1, 13, 255, 256, 256 + s.m.Kind, s.m.Kind - 256, 1<<32 + s.m.Kind, -s.m.Kind, math.MinInt, math.MaxInt} {
			m := s.m
			m.Kind = kind
			checkRight(t, m, false)
		}
	}
}

func TestRightNodes(t *testing.T) {
	for kind := api.Request; kind <= api.Buried; kind++ {
		m := of(kind)
		for n := -1; n <= 66; n++ {
			m.From, m.To = n, 30
			checkRight(t, m, n >= 1 && n <= 64 && n != 30)
			m.From, m.To = 30, n
			checkRight(t, m, n >= 1 && n <= 64 && n != 30)
			m.From, m.To = n, n
			checkRight(t, m, false)
		}
		for _, n := range []int{257, -255, 1<<32 + 1, math.MinInt, math.MaxInt} {
			m.From, m.To = n, 30
			checkRight(t, m, false)
			m.From, m.To = 30, n
			checkRight(t, m, false)
		}
		m.From, m.To = 1, 64
		checkRight(t, m, true)
		m.From, m.To = 64, 1
		checkRight(t, m, true)
		m.From, m.To = 0, 65
		checkRight(t, m, false)
	}
}

// TestRightNumbers: each field of one number at its ends, and passed by one on
// either side.
func TestRightNumbers(t *testing.T) {
	try := func(kind int, name string, n uint64, want bool) {
		t.Helper()
		m := of(kind)
		m.Op = min(m.Op, 2) // Op's own edges are where Targets are looked at
		if name == "Call" && m.Floor > 0 {
			m.Floor = 1
		}
		if name == "Floor" {
			m.Call = top
		}
		set(&m, name, n)
		checkRight(t, m, want)
	}
	for kind := api.Request; kind <= api.Buried; kind++ {
		for _, name := range names {
			if !isPlain(name) || name == "Op" || !has(kind, name) {
				continue
			}
			f := formOf(kind, name)
			if name == "Floor" {
				f.most = top
			}
			try(kind, name, f.least, true)
			try(kind, name, f.least+1, true)
			try(kind, name, f.most, true)
			try(kind, name, f.most-1, true)
			if f.most == all {
				continue
			}
			try(kind, name, f.least-1, false) // below 0 it is the greatest, or -1
			try(kind, name, f.most+1, false)
			try(kind, name, f.most+256, false)
			try(kind, name, f.least+1<<32<<30, false)
			try(kind, name, 1<<63, false)
			try(kind, name, all, false)
		}
	}
}

// TestRightFloor: Floor is 1 to Call.
func TestRightFloor(t *testing.T) {
	m := of(api.Request)
	for _, n := range []uint64{1, 2, 300, 1 << 40, top - 1, top} {
		m.Call = n
		for _, c := range []struct {
			floor uint64
			want  bool
		}{{0, false}, {1, true}, {n, true}, {n + 1, false}, {n - 1, n > 1}, {all, false}} {
			m.Floor = c.floor
			checkRight(t, m, c.want)
		}
	}
	m.Call, m.Floor = top+1, top+1
	checkRight(t, m, false)
	m.Call, m.Floor = 0, 0
	checkRight(t, m, false)
}

// targets answers Targets that are right and not none, and such that aren't
// right.
func targets() (right, wrong []api.ID) {
	right = []api.ID{{Node: 1, Serial: 1}, {Node: 64, Serial: 1}, {Node: 1, Serial: top}, {Node: 64, Serial: top}, {Node: 30, Serial: 77}}
	wrong = []api.ID{{Node: 1}, {Serial: 1}, {Node: 64}, {Serial: top}, {Node: 65, Serial: 1}, {Node: -1, Serial: 1}, {Node: -1}, {Node: 65},
		{Node: 257, Serial: 1}, {Node: 1, Serial: top + 1}, {Serial: top + 1}, {Node: 1, Serial: all}, {Node: math.MinInt, Serial: 1}, {Node: math.MaxInt, Serial: all}}
	return right, wrong
}

// checkTargets tries all Targets in m, which wants one, or wants none, or may
// not be with any.
func checkTargets(t *testing.T, m api.Msg, one, none bool) {
	t.Helper()
	right, wrong := targets()
	for _, x := range right {
		m.Target = x
		checkRight(t, m, one)
	}
	for _, x := range wrong {
		m.Target = x
		checkRight(t, m, false)
	}
	m.Target = api.ID{}
	checkRight(t, m, none)
}

func TestRightTargets(t *testing.T) {
	for _, op := range []int{-1, 0, 1, 2, 3, 4, 5, 6, 7, 8, 257, math.MinInt, math.MaxInt} {
		m := of(api.Request)
		m.Op = op
		checkTargets(t, m, op >= 2 && op <= 5, op == 1 || op == 6)
		m = of(api.Ask)
		m.Op = op
		checkTargets(t, m, op == 1 || op == 2, op == 3)
	}
	for _, kind := range []int{api.Dirty, api.Told, api.Clean, api.Cleaned, api.Dead} {
		checkTargets(t, of(kind), true, false)
	}
	for _, kind := range []int{api.Reply, api.Ack, api.Tell, api.Buried} {
		checkTargets(t, of(kind), false, true)
	}
}

func TestRightRefs(t *testing.T) {
	x, none := api.ID{Node: 64, Serial: top}, api.ID{}
	right := [][]api.ID{nil, {}, {none}, {x}, {none, none}, {none, x}, {x, none}, {x, x}, {{Node: 1, Serial: 1}}, make([]api.ID, 2, 90)}
	long := [][]api.ID{{none, none, none}, {x, x, x}, {x, none, x}, make([]api.ID, 4), make([]api.ID, 300)}
	_, wrong := targets()
	for _, kind := range []int{api.Request, api.Reply} {
		m := of(kind)
		for _, l := range right {
			m.Refs = l
			checkRight(t, m, true)
		}
		for _, l := range long {
			m.Refs = l
			checkRight(t, m, false)
		}
		for _, w := range wrong {
			for _, l := range [][]api.ID{{w}, {w, x}, {x, w}, {none, w}, {w, none}, {w, w}} {
				m.Refs = l
				checkRight(t, m, false)
			}
		}
	}
}

func TestRightLists(t *testing.T) {
	m := of(api.Tell)
	for _, c := range []struct {
		l    []uint64
		want bool
	}{
		{nil, true}, {[]uint64{}, true}, {[]uint64{1}, true}, {[]uint64{top}, true}, {[]uint64{1, top}, true}, {[]uint64{1, 2, 3}, true},
		{rising(63, 100), true}, {rising(64, 64), true}, {rising(64, top), true}, {rising(65, 65), false}, {rising(65, top), false}, {rising(900, top), false},
		{[]uint64{0}, false}, {[]uint64{0, 1}, false}, {[]uint64{top + 1}, false}, {[]uint64{5, top + 1}, false}, {[]uint64{all}, false},
		{[]uint64{2, 2}, false}, {[]uint64{2, 1}, false}, {[]uint64{1, 0}, false}, {[]uint64{1, 2, 2}, false}, {[]uint64{1, 3, 2}, false}, {[]uint64{3, 1, 2}, false},
	} {
		m.List = c.l
		checkRight(t, m, c.want)
	}
	for i := 1; i < api.MaxList; i++ {
		for _, n := range []uint64{0, 1} { // as great as the one ahead of it, or below it
			l := rising(api.MaxList, 500)
			l[i] = l[i-1] - n
			m.List = l
			checkRight(t, m, false)
		}
	}
}

// TestRightOtherFields: what a Kind doesn't have is zero.
func TestRightOtherFields(t *testing.T) {
	for _, s := range samples() {
		for _, name := range names {
			if has(s.m.Kind, name) {
				continue
			}
			m := s.m
			switch name {
			case "Target":
				for _, x := range []api.ID{{Node: 2, Serial: 9}, {Node: 2}, {Serial: 9}, {Node: -1}} {
					m.Target = x
					checkRight(t, m, false)
				}
			case "Refs":
				m.Refs = []api.ID{}
				checkRight(t, m, true)
				m.Refs = []api.ID{{}}
				checkRight(t, m, false)
			case "List":
				m.List = make([]uint64, 0, 5)
				checkRight(t, m, true)
				for _, l := range [][]uint64{{0}, {1}} {
					m.List = l
					checkRight(t, m, false)
				}
			default:
				for _, n := range []uint64{1, 2, 256, 1 << 32, 1 << 63, all} {
					set(&m, name, n)
					checkRight(t, m, false)
				}
			}
		}
	}
}

// TestRightOfAnotherKind: a sample with another one's Kind may be just if its
// fields fit there.
func TestRightOfAnotherKind(t *testing.T) {
	for _, s := range samples() {
		for kind := -1; kind <= 13; kind++ {
			m := s.m
			m.Kind = kind
			checkRight(t, m, may(m))
		}
	}
}

func TestRightAndEncodeChangeNothing(t *testing.T) {
	for _, s := range samples() {
		m := s.m
		refs := append(append(make([]api.ID, 0, 9), m.Refs...), make([]api.ID, 9-len(m.Refs))...)
		list := append(append(make([]uint64, 0, 9), m.List...), rising(9-len(m.List), 90)...)
		refs[8], list[8] = api.ID{Node: 3, Serial: 3}, 3
		wasRefs, wasList := slices.Clone(refs), slices.Clone(list)
		m.Refs, m.List = refs[:len(m.Refs)], list[:len(m.List)]
		checkRight(t, m, true)
		m.From = m.To
		checkRight(t, m, false)
		if !slices.Equal(refs, wasRefs) || !slices.Equal(list, wasList) {
			t.Errorf("R2: %+v has left %v %v", s.m, refs, list)
		}
	}
}
