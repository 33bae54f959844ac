package wire

import (
	"mooring/api"
	"mooring/codec"
)

// inByte tells whether a field of one number is laid as a byte.
func inByte(f field) bool {
	switch f {
	case op, spot, code, voucher, dist:
		return true
	}
	return false
}

func lay(w *codec.Writer, m api.Msg, f field) {
	switch {
	case f == target:
		layID(w, m.Target)
	case f == refs:
		layIDs(w, m.Refs)
	case f == list:
		layList(w, m.List)
	case inByte(f):
		w.Byte(byte(number(m, f)))
	default:
		w.Num(number(m, f))
	}
}

func layID(w *codec.Writer, x api.ID) {
	w.Byte(byte(x.Node))
	w.Num(x.Serial)
}

func layIDs(w *codec.Writer, l []api.ID) {
	w.Num(uint64(len(l)))
	for _, x := range l {
		layID(w, x)
	}
}

func layList(w *codec.Writer, l []uint64) {
	w.Num(uint64(len(l)))
	for _, n := range l {
		w.Num(n)
	}
}

func read(r *codec.Reader, m *api.Msg, f field) {
	_, most := bounds(m.Kind, f)
	switch {
	case f == target:
		m.Target = readID(r)
	case f == refs:
		m.Refs = readIDs(r)
	case f == list:
		m.List = readList(r)
	case inByte(f):
		setNumber(m, f, uint64(r.Byte(byte(most))))
	default:
		setNumber(m, f, r.Num(most))
	}
}

func readID(r *codec.Reader) api.ID {
	node := int(r.Byte(api.MaxNodes))
	return api.ID{Node: node, Serial: r.Num(api.MaxSerial)}
}

func readIDs(r *codec.Reader) []api.ID {
	l := make([]api.ID, r.Num(api.MaxRefs))
	for i := range l {
		l[i] = readID(r)
	}
	return l
}

func readList(r *codec.Reader) []uint64 {
	l := make([]uint64, r.Num(api.MaxList))
	for i := range l {
		l[i] = r.Num(api.MaxSerial)
	}
	return l
}
