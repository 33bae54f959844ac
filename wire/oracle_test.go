package wire_test

import (
	"encoding/binary"
	"hash/crc32"
	"slices"
	"strings"

	"mooring/api"
)

// What the chapter says, worked out from the tables of these tests and the
// library's own numbers and sums.

func rightID(x api.ID) bool {
	return x == api.ID{} || x.Node >= 1 && x.Node <= 64 && x.Serial >= 1 && x.Serial < 1<<56
}

func mayTarget(m api.Msg) bool {
	none := m.Kind == 1 && (m.Op == 1 || m.Op == 6) || m.Kind == 8 && m.Op == 3
	return rightID(m.Target) && (m.Target == api.ID{}) == none
}

func mayList(l []uint64) bool {
	rises := slices.IsSorted(l) && len(slices.Compact(slices.Clone(l))) == len(l)
	return rises && len(l) <= 64 && (len(l) == 0 || l[0] >= 1 && l[len(l)-1] < 1<<56)
}

// may is 2.1.
func may(m api.Msg) bool {
	if m.Kind < 1 || m.Kind > 11 || m.From < 1 || m.From > 64 || m.To < 1 || m.To > 64 || m.From == m.To {
		return false
	}
	for _, name := range names {
		ok := false
		switch mine := has(m.Kind, name); name {
		case "Target":
			ok = mine && mayTarget(m) || m.Target == api.ID{} && !mine
		case "Refs":
			ok = len(m.Refs) == 0 || mine && len(m.Refs) <= 2 && rightID(m.Refs[0]) && rightID(m.Refs[len(m.Refs)-1])
		case "List":
			ok = len(m.List) == 0 || mine && mayList(m.List)
		default:
			f := formOf(m.Kind, name)
			n := get(m, name)
			ok = n == 0 && !mine || mine && n >= f.least && n <= f.most && (name != "Floor" || n <= m.Call)
		}
		if !ok {
			return false
		}
	}
	return true
}

func seal(b []byte) []byte {
	return binary.LittleEndian.AppendUint32(slices.Clone(b), crc32.ChecksumIEEE(b))
}

// inner is 2.2 ahead of the sum, of a message that may be.
func inner(m api.Msg) []byte {
	b := []byte{byte(m.Kind), byte(m.From), byte(m.To)}
	num := func(n uint64) { b = binary.AppendUvarint(b, n) }
	id := func(x api.ID) {
		b = append(b, byte(x.Node))
		num(x.Serial)
	}
	for _, name := range strings.Fields(kinds[m.Kind]) {
		switch name {
		case "Target":
			id(m.Target)
		case "Refs":
			num(uint64(len(m.Refs)))
			for _, x := range m.Refs {
				id(x)
			}
		case "List":
			num(uint64(len(m.List)))
			for _, n := range m.List {
				num(n)
			}
		default:
			if formOf(m.Kind, name).inByte {
				b = append(b, byte(get(m, name)))
			} else {
				num(get(m, name))
			}
		}
	}
	return b
}

// eater takes bytes from the left, and stops by a panic at the first error.
type eater struct{ b []byte }

func (x *eater) byte(most uint64) uint64 {
	if len(x.b) == 0 {
		panic(api.ErrShort)
	}
	n := uint64(x.b[0])
	if n > most {
		panic(api.ErrLong)
	}
	x.b = x.b[1:]
	return n
}

func (x *eater) num(most uint64) uint64 {
	n, size := binary.Uvarint(x.b)
	if size == 0 && len(x.b) < 10 {
		panic(api.ErrShort)
	}
	if size <= 0 || size > 1 && x.b[size-1] == 0 {
		panic(api.ErrForm)
	}
	if n > most {
		panic(api.ErrLong)
	}
	x.b = x.b[size:]
	return n
}

func (x *eater) id() api.ID {
	node := int(x.byte(64))
	return api.ID{Node: node, Serial: x.num(1<<56 - 1)}
}

func (x *eater) field(m *api.Msg, name string) {
	switch name {
	case "Target":
		m.Target = x.id()
	case "Refs":
		for range x.num(2) {
			m.Refs = append(m.Refs, x.id())
		}
	case "List":
		for range x.num(64) {
			m.List = append(m.List, x.num(1<<56-1))
		}
	default:
		f := formOf(m.Kind, name)
		if f.inByte {
			set(m, name, x.byte(f.most))
		} else {
			set(m, name, x.num(f.most))
		}
	}
}

// opened is 2.3 of what lies ahead of the sum.
func opened(b []byte) (m api.Msg, e api.Errno) {
	defer func() {
		if wrong := recover(); wrong != nil {
			m, e = api.Msg{}, wrong.(api.Errno)
		}
	}()
	x := &eater{b}
	m.Kind = int(x.byte(11))
	if m.Kind == 0 {
		panic(api.ErrForm)
	}
	m.From, m.To = int(x.byte(64)), int(x.byte(64))
	for _, name := range strings.Fields(kinds[m.Kind]) {
		x.field(&m, name)
	}
	if len(x.b) > 0 || !may(m) {
		panic(api.ErrForm)
	}
	return m, api.OK
}
