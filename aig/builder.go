package aig

import (
	"slices"

	"patchbay/api"
)

// builder makes the ands of a graph anew.
type builder struct {
	api.Graph
	// there is the literal of each and that is there.
	there map[[2]int]int
	// to is, number by number of the graph that was, the literal that it has come to.
	to []int
}

// newBuilder has the inputs and latches of g, and no ands yet.
func newBuilder(g api.Graph) *builder {
	b := &builder{there: map[[2]int]int{}}
	b.Ins, b.Next, b.Init = g.Ins, slices.Clone(g.Next), slices.Clone(g.Init)
	for n := range firstAnd(g) {
		b.come(2 * n)
	}
	return b
}

// come tells to which literal the next number has come.
func (b *builder) come(lit int) { b.to = append(b.to, lit) }

// lit is what a literal has come to.
func (b *builder) lit(l int) int { return b.to[l/2] ^ l%2 }

// and is a literal that is two.
func (b *builder) and(x, y int) int {
	x, y = max(x, y), min(x, y)
	if lit, ok := plain(x, y); ok {
		return lit
	}
	key := [2]int{x, y}
	if _, ok := b.there[key]; !ok {
		b.Ands = append(b.Ands, key)
		b.there[key] = 2 * greatest(b.Graph)
	}
	return b.there[key]
}

func mapped(l []int, lit func(int) int) []int {
	var all []int
	for _, x := range l {
		all = append(all, lit(x))
	}
	return all
}

// led tells of each number whether Next or Outs leads to it.
func led(g api.Graph) []bool {
	marks := make([]bool, 1+greatest(g))
	for _, lit := range slices.Concat(g.Next, g.Outs) {
		marks[lit/2] = true
	}
	for i, and := range slices.Backward(g.Ands) {
		if marks[firstAnd(g)+i] {
			marks[and[0]/2], marks[and[1]/2] = true, true
		}
	}
	return marks
}

// closeUp leaves out the ands to which nothing leads.
func closeUp(g api.Graph) api.Graph {
	marks := led(g)
	b := newBuilder(g)
	for i, and := range g.Ands {
		lit := 0
		if marks[firstAnd(g)+i] {
			lit = b.and(b.lit(and[0]), b.lit(and[1]))
		}
		b.come(lit)
	}
	b.Next, b.Outs = mapped(g.Next, b.lit), mapped(g.Outs, b.lit)
	return b.Graph
}
