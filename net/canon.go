package net

import (
	"iter"
	"math/bits"
	"slices"
	"strings"

	"patchbay/api"
)

// Canon is a gate like g, in one way.
func Canon(g api.Gate) api.Gate {
	g.Ins, g.Rows = slices.Clone(g.Ins), slices.Clone(g.Rows)
	if g.Op == api.OpCover {
		if op, ok := opOfCover(g); ok {
			return api.Gate{Name: g.Name, Op: op, Ins: g.Ins}
		}
		return g
	}
	if len(g.Ins) == 1 && len(g.Rows) == 0 && !g.Off {
		g.Op = opOfOne(g.Op)
	}
	return g
}

// opOfOne is the op that does what op does to one net.
func opOfOne(op api.Op) api.Op {
	switch op {
	case api.OpAnd, api.OpOr, api.OpXor:
		return api.OpBuf
	case api.OpNand, api.OpNor, api.OpXnor:
		return api.OpNot
	}
	return op
}

// opOfCover is the op whose cover g has.
func opOfCover(g api.Gate) (api.Op, bool) {
	may := arity()
	for op := api.OpZero; op < api.OpCover; op++ {
		if may[op][0] <= len(g.Ins) && len(g.Ins) <= may[op][1] && hasCover(g, op) {
			return op, true
		}
	}
	return 0, false
}

func hasCover(g api.Gate, op api.Op) bool {
	if g.Off != (op == api.OpNand || op == api.OpOr) {
		return false
	}
	n := 0
	for row := range coverRows(op, len(g.Ins)) {
		if n == len(g.Rows) || g.Rows[n] != row {
			return false
		}
		n++
	}
	return n == len(g.Rows)
}

// coverRows tells the rows of the cover of an op of n nets.
func coverRows(op api.Op, n int) iter.Seq[string] {
	return func(yield func(string) bool) {
		switch op {
		case api.OpOne, api.OpBuf, api.OpAnd, api.OpNand:
			yield(strings.Repeat("1", n))
		case api.OpNot, api.OpOr, api.OpNor:
			yield(strings.Repeat("0", n))
		case api.OpXor:
			tellParity(n, 1, yield)
		case api.OpXnor:
			tellParity(n, 0, yield)
		}
	}
}

// tellParity tells the rows of n signs whose 1s are odd (1) or even (0) in number, as numbers rising.
func tellParity(n, parity int, yield func(string) bool) {
	for x := range 1 << n {
		if bits.OnesCount(uint(x))%2 == parity && !yield(rowOf(x, n)) {
			return
		}
	}
}

// rowOf is a number in n binary digits.
func rowOf(x, n int) string {
	row := make([]byte, n)
	for i := range row {
		row[i] = '0' + byte(x>>(n-1-i)&1)
	}
	return string(row)
}
