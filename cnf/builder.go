package cnf

import "patchbay/api"

// always is the variable that is true.
const always = 1

// row is, number by number of a graph, its literal of clauses.
type row []int

// lit is the literal of clauses of a graph's literal.
func (r row) lit(l int) int {
	if l%2 == 1 {
		return -r[l/2]
	}
	return r[l/2]
}

// builder makes the clauses of steps.
type builder struct {
	Cnf
	g api.Graph
}

// newBuilder has the first row, in which nothing is told yet of inputs and ands.
func newBuilder(g api.Graph, begin []int) *builder {
	b := &builder{g: g}
	b.add(b.variable())
	first := b.row()
	for i, v := range begin {
		n := 1 + g.Ins + i
		switch v {
		case 0:
			first[n] = -always
		case 1:
			first[n] = always
		default:
			first[n] = b.variable()
		}
	}
	return b
}

// variable is a new one.
func (b *builder) variable() int {
	b.Vars++
	return b.Vars
}

// row is a new one at the end of the rows: only what is false has its literal.
func (b *builder) row() row {
	r := make(row, firstAnd(b.g)+len(b.g.Ands))
	r[0] = -always
	b.Lits = append(b.Lits, r)
	return r
}

// add adds a clause.
func (b *builder) add(lits ...int) {
	b.Clauses = append(b.Clauses, append(api.Clause{}, lits...))
}

// step tells all of the last row, and begins the next one.
func (b *builder) step() {
	now := row(b.Lits[len(b.Lits)-1])
	lit := now.lit
	for i := range b.g.Ins {
		now[1+i] = b.variable()
	}
	for i, and := range b.g.Ands {
		v := b.variable()
		now[firstAnd(b.g)+i] = v
		x, y := lit(and[0]), lit(and[1])
		b.add(-v, x)
		b.add(-v, y)
		b.add(v, -x, -y)
	}
	next := b.row()
	for i, l := range b.g.Next {
		next[1+b.g.Ins+i] = lit(l)
	}
}
