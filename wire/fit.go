package wire

import "mooring/api"

func isNode(n int) bool { return n >= 1 && n <= api.MaxNodes }

func isSerial(n uint64) bool { return n >= 1 && n <= api.MaxSerial }

func isNone(x api.ID) bool { return x == api.ID{} }

func isID(x api.ID) bool { return isNone(x) || isNode(x.Node) && isSerial(x.Serial) }

// isZero tells whether m is without f.
func isZero(m api.Msg, f field) bool {
	switch f {
	case target:
		return isNone(m.Target)
	case refs:
		return len(m.Refs) == 0
	case list:
		return len(m.List) == 0
	}
	return number(m, f) == 0
}

// fits tells whether f, a field of m's Kind, is as it may be.
func fits(m api.Msg, f field) bool {
	switch f {
	case target:
		return isID(m.Target) && isNone(m.Target) == wantsNone(m)
	case refs:
		return areIDs(m.Refs)
	case list:
		return isList(m.List)
	}
	n := number(m, f)
	least, most := bounds(m.Kind, f)
	if f == floor {
		most = m.Call
	}
	return n >= least && n <= most
}

// wantsNone tells whether m is about no object: its Target must be none then,
// and must not be else.
func wantsNone(m api.Msg) bool {
	switch m.Kind {
	case api.Request:
		return m.Op == api.CallNew || m.Op == api.CallFind
	case api.Ask:
		return m.Op == api.AskStir
	}
	return false
}

func areIDs(l []api.ID) bool {
	if len(l) > api.MaxRefs {
		return false
	}
	for _, x := range l {
		if !isID(x) {
			return false
		}
	}
	return true
}

func isList(l []uint64) bool {
	if len(l) > api.MaxList {
		return false
	}
	for i, n := range l {
		if !isSerial(n) || i > 0 && n <= l[i-1] {
			return false
		}
	}
	return true
}
