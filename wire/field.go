package wire

import (
	"math"

	"mooring/api"
)

// field is a field of a message behind its Kind, From and To, or a set of
// them: a bit each.
type field uint

// The fields stand in an order that holds for every Kind's own: so a set is
// enough to tell in which order a Kind's fields are laid.
const (
	call field = 1 << iota
	floor
	item
	op
	spot // api.Msg's Field
	target
	seq
	voucher
	at
	dist
	code
	value
	refs
	stamp
	list

	first = call
	last  = list
)

const (
	mostKind = api.Buried
	mostSpot = 63
	mostCode = 10
)

// fieldsOf answers the fields of a Kind; without any there is no such Kind.
func fieldsOf(kind int) field {
	var has field
	switch kind {
	case api.Request:
		has = call | floor | op | spot | target | value | refs
	case api.Reply:
		has = call | code | value | refs
	case api.Dirty:
		has = voucher | at | dist
		fallthrough
	case api.Clean, api.Cleaned:
		has |= target | seq
	case api.Told:
		has = target | seq | at | code
	case api.Ask:
		has = call | item | op | target
	case api.Dead:
		has = call | item | target | stamp
	case api.Tell:
		has = code | stamp | list
		fallthrough
	case api.Buried:
		has |= item
		fallthrough
	case api.Ack:
		has |= call
	}
	return has
}

// bounds tells how small and how great a field of one number may be, whatever
// the others are.
func bounds(kind int, f field) (least, most uint64) {
	switch f {
	case call, seq:
		return 1, api.MaxSerial
	case floor:
		return 1, math.MaxUint64
	case item:
		return 0, api.MaxItems - 1
	case op:
		if kind == api.Ask {
			return api.AskIn, api.AskStir
		}
		return api.CallNew, api.CallFind
	case spot:
		return 0, mostSpot
	case voucher:
		return 1, api.MaxNodes
	case dist:
		return 1, api.MaxDist
	case code:
		if kind == api.Tell {
			return api.TellNone, api.TellSuspect
		}
		return 0, mostCode
	}
	return 0, math.MaxUint64
}

// number answers a field of m that is one number. One below 0 comes out above
// all that such a field may be.
func number(m api.Msg, f field) uint64 {
	switch f {
	case call:
		return m.Call
	case floor:
		return m.Floor
	case item:
		return uint64(m.Item)
	case op:
		return uint64(m.Op)
	case spot:
		return uint64(m.Field)
	case seq:
		return m.Seq
	case voucher:
		return uint64(m.Voucher)
	case at:
		return m.At
	case dist:
		return uint64(m.Dist)
	case code:
		return uint64(m.Code)
	case value:
		return m.Value
	case stamp:
		return m.Stamp
	}
	return 0
}

// setNumber sets a field of m that is one number, to one within its bounds.
func setNumber(m *api.Msg, f field, n uint64) {
	switch f {
	case call:
		m.Call = n
	case floor:
		m.Floor = n
	case item:
		m.Item = int(n)
	case op:
		m.Op = int(n)
	case spot:
		m.Field = int(n)
	case seq:
		m.Seq = n
	case voucher:
		m.Voucher = int(n)
	case at:
		m.At = n
	case dist:
		m.Dist = int(n)
	case code:
		m.Code = int(n)
	case value:
		m.Value = n
	case stamp:
		m.Stamp = n
	}
}
