package wire_test

import (
	"math"
	"slices"
	"strings"

	"mooring/api"
)

// The chapter's table, and what 2.1 to 2.3 say of each field, written down a
// second time and in another way than the program's: the tests hold the
// program against it.

// kinds tells each Kind's fields, in their order; the Kind is the place.
var kinds = []string{
	"",
	"Call Floor Op Field Target Value Refs",
	"Call Code Value Refs",
	"Call",
	"Target Seq Voucher At Dist",
	"Target Seq At Code",
	"Target Seq",
	"Target Seq",
	"Call Item Op Target",
	"Call Item Code Stamp List",
	"Call Item Target Stamp",
	"Call Item",
}

// names tells every field that some Kind has.
var names = strings.Fields("Call Floor Op Field Item Target Refs Value Code Seq Voucher At Dist Stamp List")

func has(kind int, name string) bool {
	return slices.Contains(strings.Fields(kinds[kind]), name)
}

// a form says of a field of one number how it is laid and how small and great
// it may be by itself.
type form struct {
	inByte      bool
	least, most uint64
}

const all = math.MaxUint64

var forms = map[string]form{
	"Call":    {false, 1, 1<<56 - 1},
	"Floor":   {false, 1, all},
	"Op":      {true, 1, 6},
	"Field":   {true, 0, 63},
	"Item":    {false, 0, 4095},
	"Value":   {false, 0, all},
	"Code":    {true, 0, 10},
	"Seq":     {false, 1, 1<<56 - 1},
	"Voucher": {true, 1, 64},
	"At":      {false, 0, all},
	"Dist":    {true, 1, 40},
	"Stamp":   {false, 0, all},
}

func formOf(kind int, name string) form {
	if kind == api.Ask && name == "Op" {
		return form{true, 1, 3}
	}
	if kind == api.Tell && name == "Code" {
		return form{true, 0, 2}
	}
	return forms[name]
}

// isPlain tells whether a field is one number.
func isPlain(name string) bool { return name != "Target" && name != "Refs" && name != "List" }

// plain points at a field of one number: the one pointer, or the other.
func plain(m *api.Msg, name string) (*int, *uint64) {
	switch name {
	case "Call":
		return nil, &m.Call
	case "Floor":
		return nil, &m.Floor
	case "Op":
		return &m.Op, nil
	case "Field":
		return &m.Field, nil
	case "Item":
		return &m.Item, nil
	case "Value":
		return nil, &m.Value
	case "Code":
		return &m.Code, nil
	case "Seq":
		return nil, &m.Seq
	case "Voucher":
		return &m.Voucher, nil
	case "At":
		return nil, &m.At
	case "Dist":
		return &m.Dist, nil
	}
	return nil, &m.Stamp
}

func set(m *api.Msg, name string, n uint64) {
	whole, wide := plain(m, name)
	if whole != nil {
		*whole = int(n)
		return
	}
	*wide = n
}

func get(m api.Msg, name string) uint64 {
	whole, wide := plain(&m, name)
	if whole != nil {
		return uint64(*whole)
	}
	return *wide
}

// a sample is a message that may be, and its bytes ahead of their sum.
type sample struct {
	m api.Msg
	b []byte
}

// samples answers messages of each Kind, new ones at each call.
func samples() []sample {
	x := api.ID{Node: 2, Serial: 9}
	far := api.ID{Node: 64, Serial: 1<<56 - 1}
	return []sample{
		{api.Msg{Kind: api.Request, From: 1, To: 2, Call: 300, Floor: 299, Op: api.CallLoad, Field: 5, Target: x, Value: 128, Refs: []api.ID{{Node: 3, Serial: 200}, {}}},
			[]byte{1, 1, 2, 0xac, 2, 0xab, 2, 2, 5, 2, 9, 0x80, 1, 2, 3, 0xc8, 1, 0, 0}},
		{api.Msg{Kind: api.Request, From: 1, To: 2, Call: 7, Floor: 7, Op: api.CallStore, Field: 6, Target: far, Refs: []api.ID{x}},
			[]byte{1, 1, 2, 7, 7, 3, 6, 64, 255, 255, 255, 255, 255, 255, 255, 127, 0, 1, 2, 9}},
		{api.Msg{Kind: api.Request, From: 64, To: 63, Call: 1, Floor: 1, Op: api.CallNew, Field: 63},
			[]byte{1, 64, 63, 1, 1, 1, 63, 0, 0, 0, 0}},
		{api.Msg{Kind: api.Request, From: 2, To: 1, Call: 4, Floor: 2, Op: api.CallFind, Field: 7, Value: all},
			[]byte{1, 2, 1, 4, 2, 6, 7, 0, 0, 255, 255, 255, 255, 255, 255, 255, 255, 255, 1, 0}},
		{api.Msg{Kind: api.Reply, From: 2, To: 1, Call: 5, Code: 10, Value: 300, Refs: []api.ID{{}, x}},
			[]byte{2, 2, 1, 5, 10, 0xac, 2, 2, 0, 0, 2, 9}},
		{api.Msg{Kind: api.Reply, From: 2, To: 1, Call: 128},
			[]byte{2, 2, 1, 0x80, 1, 0, 0, 0}},
		{api.Msg{Kind: api.Ack, From: 1, To: 2, Call: 5},
			[]byte{3, 1, 2, 5}},
		{api.Msg{Kind: api.Dirty, From: 1, To: 2, Target: x, Seq: 130, Voucher: 64, At: 1000, Dist: 40},
			[]byte{4, 1, 2, 2, 9, 0x82, 1, 64, 0xe8, 7, 40}},
		{api.Msg{Kind: api.Told, From: 2, To: 1, Target: x, Seq: 3, At: 1 << 62, Code: 4},
			[]byte{5, 2, 1, 2, 9, 3, 128, 128, 128, 128, 128, 128, 128, 128, 64, 4}},
		{api.Msg{Kind: api.Clean, From: 1, To: 2, Target: x, Seq: 131},
			[]byte{6, 1, 2, 2, 9, 0x83, 1}},
		{api.Msg{Kind: api.Cleaned, From: 2, To: 1, Target: far, Seq: 2},
			[]byte{7, 2, 1, 64, 255, 255, 255, 255, 255, 255, 255, 127, 2}},
		{api.Msg{Kind: api.Ask, From: 1, To: 2, Call: 6, Item: 4095, Op: api.AskIn, Target: x},
			[]byte{8, 1, 2, 6, 0xff, 31, 1, 2, 9}},
		{api.Msg{Kind: api.Ask, From: 1, To: 2, Call: 6, Item: 1, Op: api.AskOut, Target: x},
			[]byte{8, 1, 2, 6, 1, 2, 2, 9}},
		{api.Msg{Kind: api.Ask, From: 1, To: 2, Call: 6, Op: api.AskStir},
			[]byte{8, 1, 2, 6, 0, 3, 0, 0}},
		{api.Msg{Kind: api.Tell, From: 2, To: 1, Call: 6, Item: 130, Code: 2, Stamp: 200, List: []uint64{3, 8, 256}},
			[]byte{9, 2, 1, 6, 0x82, 1, 2, 0xc8, 1, 3, 3, 8, 0x80, 2}},
		{api.Msg{Kind: api.Tell, From: 2, To: 1, Call: 6},
			[]byte{9, 2, 1, 6, 0, 0, 0, 0}},
		{api.Msg{Kind: api.Dead, From: 1, To: 2, Call: 6, Item: 1, Target: x, Stamp: 300},
			[]byte{10, 1, 2, 6, 1, 2, 9, 0xac, 2}},
		{api.Msg{Kind: api.Buried, From: 2, To: 1, Call: 6, Item: 128},
			[]byte{11, 2, 1, 6, 0x80, 1}},
	}
}

// of answers the first sample of a Kind.
func of(kind int) api.Msg {
	l := samples()
	return l[slices.IndexFunc(l, func(s sample) bool { return s.m.Kind == kind })].m
}

// same messages, lists without elements alike?
func same(a, b api.Msg) bool {
	for _, name := range names {
		if isPlain(name) && get(a, name) != get(b, name) {
			return false
		}
	}
	return a.Kind == b.Kind && a.From == b.From && a.To == b.To && a.Target == b.Target &&
		slices.Equal(a.Refs, b.Refs) && slices.Equal(a.List, b.List)
}

// rising answers n numbers that rise by one up to top.
func rising(n int, top uint64) []uint64 {
	l := make([]uint64, n)
	for i := range l {
		l[i] = top - uint64(n-1-i)
	}
	return l
}
