// Package sample makes machines to try the layers with. What is chosen is told by a function, so that a machine hangs on nothing else.
package sample

import (
	"strconv"

	"patchbay/api"
)

// Choose is a number from 0 on that is less than n.
type Choose func(n int) int

// Size is how many there are of each thing, at least and at most; Width is how many Ins a gate has. A graph's gates are its ands.
type Size struct{ Inputs, Latches, Gates, Outputs, Width [2]int }

// Where the numbers begin that names end with, so that none is there twice.
const (
	firstInput  = 0
	firstLatch  = 100
	firstGate   = 200
	firstOutput = 300
)

// eitherToo is how many ways a latch may begin.
const eitherToo = 3

// Bits are the n lowest digits of a number, as values.
func Bits(x, n int) []bool {
	l := make([]bool, n)
	for i := range l {
		l[i] = x>>i&1 == 1
	}
	return l
}

// between is a number of a range.
func (c Choose) between(r [2]int) int { return r[0] + c(r[1]-r[0]+1) }

// order is the numbers below n in any order.
func (c Choose) order(n int) []int {
	l := make([]int, n)
	for i := range l {
		j := c(i + 1)
		l[i], l[j] = l[j], i
	}
	return l
}

// names are names that begin with some of the stems.
func (c Choose) names(stems []string, first int, many [2]int) []string {
	var l []string
	for i := range c.between(many) {
		l = append(l, stems[c(len(stems))]+strconv.Itoa(first+i))
	}
	return l
}

// Circuit is a netlist that may be, with gates of all ops that stand in any order. There is an input at least.
func Circuit(c Choose, size Size, stems ...string) api.Circuit {
	size.Inputs[0] = max(size.Inputs[0], 1)
	m := api.Circuit{Inputs: c.names(stems, firstInput, size.Inputs)}
	nets := append([]string{}, m.Inputs...)
	for _, s := range c.names(stems, firstLatch, size.Latches) {
		m.Latches = append(m.Latches, api.Latch{Name: s, Init: c(eitherToo)})
		nets = append(nets, s)
	}
	gates := make([]api.Gate, 0)
	for _, s := range c.names(stems, firstGate, size.Gates) {
		gates = append(gates, c.gate(s, nets, size.Width))
		nets = append(nets, s)
	}
	for i := range m.Latches {
		m.Latches[i].Next = nets[c(len(nets))]
	}
	places := c.order(len(nets))
	for _, i := range places[:min(c.between(size.Outputs), len(nets))] {
		m.Outputs = append(m.Outputs, nets[i])
	}
	for _, i := range c.order(len(gates)) {
		m.Gates = append(m.Gates, gates[i])
	}
	return m
}

// gate is one of nets that are there.
func (c Choose) gate(name string, nets []string, width [2]int) api.Gate {
	g := api.Gate{Name: name, Op: api.Op(c(int(api.OpCover) + 1))}
	n := max(2, c.between(width))
	switch g.Op {
	case api.OpZero, api.OpOne:
		n = 0
	case api.OpBuf, api.OpNot:
		n = 1
	case api.OpCover:
		n = c(width[1] + 1)
		g.Off = c(2) == 1
		for range c(6) {
			g.Rows = append(g.Rows, c.row(n))
		}
	}
	for range n {
		g.Ins = append(g.Ins, nets[c(len(nets))])
	}
	return g
}

func (c Choose) row(n int) string {
	row := make([]byte, n)
	for i := range row {
		row[i] = "01-"[c(3)]
	}
	return string(row)
}

// Model is a model whose ands are of any literals that may be.
func Model(c Choose, size Size, stems ...string) api.Model {
	m := api.Model{Inputs: c.names(stems, firstInput, size.Inputs), Latches: c.names(stems, firstLatch, size.Latches)}
	g := api.Graph{Ins: len(m.Inputs)}
	numbers := 1 + len(m.Inputs) + len(m.Latches)
	for range c.between(size.Gates) {
		g.Ands = append(g.Ands, [2]int{c(2 * numbers), c(2 * numbers)})
		numbers++
	}
	for range m.Latches {
		g.Next, g.Init = append(g.Next, c(2*numbers)), append(g.Init, c(eitherToo))
	}
	m.Outputs = c.names(stems, firstOutput, size.Outputs)
	for range m.Outputs {
		g.Outs = append(g.Outs, c(2*numbers))
	}
	m.Graph = g
	return m
}
