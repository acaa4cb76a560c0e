package step

import (
	"slices"

	"patchbay/api"
)

// rule is how a gate comes to its value: what is asked of its Ins, and what is made of that.
type rule struct {
	ask  func(ins []bool) bool
	turn func(value bool) bool
}

// ruleOf is the rule of a gate. An op that is another one turned falls through to that one.
func ruleOf(g api.Gate) rule {
	r := rule{turn: as}
	switch g.Op {
	case api.OpOne:
		r.turn = not
		fallthrough
	case api.OpZero:
		r.ask = func([]bool) bool { return false }
	case api.OpNand:
		r.turn = not
		fallthrough
	case api.OpBuf, api.OpAnd:
		r.ask = func(ins []bool) bool { return !slices.Contains(ins, false) }
	case api.OpNot, api.OpNor:
		r.turn = not
		fallthrough
	case api.OpOr:
		r.ask = func(ins []bool) bool { return slices.Contains(ins, true) }
	case api.OpXnor:
		r.turn = not
		fallthrough
	case api.OpXor:
		r.ask = isOdd
	case api.OpCover:
		if g.Off {
			r.turn = not
		}
		r.ask = func(ins []bool) bool {
			return slices.ContainsFunc(g.Rows, func(row string) bool { return fits(row, ins) })
		}
	}
	return r
}

func as(value bool) bool { return value }

func not(value bool) bool { return !value }

func isOdd(ins []bool) bool {
	odd := false
	for _, v := range ins {
		odd = odd != v
	}
	return odd
}

// fits tells whether a row of a cover fits values.
func fits(row string, ins []bool) bool {
	for i, v := range ins {
		if row[i] == '1' && !v || row[i] == '0' && v {
			return false
		}
	}
	return true
}
