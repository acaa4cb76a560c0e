package lower_test

import (
	"math/rand"
	"slices"
	"strconv"
	"testing"

	"patchbay/aig"
	"patchbay/api"
	"patchbay/lower"
	"patchbay/order"
	"patchbay/sample"
	"patchbay/step"
)

// small is a model of two inputs, a latch and three outputs, two of which are nets of another kind, too.
func small() api.Model {
	return api.Model{
		Graph:   api.Graph{Ins: 2, Next: []int{8}, Init: []int{2}, Ands: [][2]int{{6, 2}}, Outs: []int{9, 4, 6}},
		Inputs:  []string{"a", "b"},
		Latches: []string{"q"},
		Outputs: []string{"z", "b", "q"},
	}
}

func TestCheck(t *testing.T) {
	for i, x := range []struct {
		change func(m *api.Model)
		e      api.Errno
	}{
		{func(m *api.Model) {}, api.OK},
		{func(m *api.Model) { *m = api.Model{} }, api.OK},
		{func(m *api.Model) { m.Graph.Ins = -1; m.Inputs = nil }, api.ErrLimit},
		{func(m *api.Model) { m.Graph.Outs[0] = 10; m.Outputs[0] = "" }, api.ErrArg},
		{func(m *api.Model) { m.Inputs = m.Inputs[:1]; m.Outputs[0] = "" }, api.ErrArg},
		{func(m *api.Model) { m.Latches = append(m.Latches, "p"); m.Outputs[0] = "" }, api.ErrArg},
		{func(m *api.Model) { m.Outputs = m.Outputs[:2]; m.Latches[0] = "" }, api.ErrArg},
		{func(m *api.Model) { m.Inputs[0], m.Inputs[1] = " ", "q" }, api.ErrName},
		{func(m *api.Model) { m.Latches[0] = "" }, api.ErrName},
		{func(m *api.Model) { m.Outputs[1], m.Outputs[2] = "\n", "z" }, api.ErrName},
		{func(m *api.Model) { m.Inputs[0] = "b" }, api.ErrTwice},
		{func(m *api.Model) { m.Latches[0] = "b" }, api.ErrTwice},
		{func(m *api.Model) { m.Outputs[0] = "q" }, api.ErrTwice},
		{func(m *api.Model) { m.Outputs[1], m.Graph.Outs[0] = "z", 4 }, api.ErrTwice},
		{func(m *api.Model) { m.Outputs[0] = "a" }, api.ErrTwice},
		{func(m *api.Model) { m.Outputs[0], m.Graph.Outs[0] = "a", 2 }, api.OK},
		{func(m *api.Model) { m.Outputs[0], m.Graph.Outs[0] = "a", 3 }, api.ErrTwice},
		{func(m *api.Model) { m.Graph.Outs[1] = 2 }, api.ErrTwice},
		{func(m *api.Model) { m.Graph.Outs[2] = 7 }, api.ErrTwice},
	} {
		m := small()
		x.change(&m)
		if e := lower.Check(m); e != x.e {
			t.Error(i, e, "want", x.e)
		}
	}
}

func TestPlace(t *testing.T) {
	m := small()
	for s, want := range map[string]int{"a": 1, "b": 2, "q": 3, "z": -1, "": -1} {
		if n := lower.Place(m, s); n != want {
			t.Error(s, n)
		}
	}
	m.Latches = []string{"b", "r", "r"}
	m.Graph = api.Graph{}
	if lower.Place(m, "b") != 2 || lower.Place(m, "r") != 4 || lower.Place(api.Model{}, "a") != -1 {
		t.Error("place")
	}
}

func TestSame(t *testing.T) {
	if !lower.Same(small(), small()) || !lower.Same(api.Model{}, api.Model{Inputs: []string{}}) {
		t.Error("alike, and told not to be")
	}
	for i, change := range []func(m *api.Model){
		func(m *api.Model) { m.Graph.Init[0] = 0 },
		func(m *api.Model) { m.Inputs[0] = "x" },
		func(m *api.Model) { m.Latches[0] = "x" },
		func(m *api.Model) { m.Outputs[0] = "x" },
		func(m *api.Model) { m.Outputs = nil },
	} {
		m := small()
		change(&m)
		if lower.Same(m, small()) || lower.Same(small(), m) {
			t.Error(i)
		}
	}
}

// of is a netlist of one gate z, of so many inputs, and of a latch q that takes z over.
func of(op api.Op, n int, rows []string, off bool) api.Circuit {
	c := api.Circuit{Latches: []api.Latch{{Name: "q", Next: "z", Init: 1}}, Outputs: []string{"z"}}
	for i := range n {
		c.Inputs = append(c.Inputs, "i"+strconv.Itoa(i))
	}
	c.Gates = []api.Gate{{Name: "z", Op: op, Ins: slices.Clone(c.Inputs), Rows: rows, Off: off}}
	return c
}

func TestGatesAreMadeSo(t *testing.T) {
	for _, x := range []struct {
		op   api.Op
		n    int
		rows []string
		off  bool
		ands [][2]int
		out  int
	}{
		{api.OpZero, 0, nil, false, nil, 0},
		{api.OpOne, 0, nil, false, nil, 1},
		{api.OpBuf, 1, nil, false, nil, 2},
		{api.OpNot, 1, nil, false, nil, 3},
		{api.OpAnd, 2, nil, false, [][2]int{{4, 2}}, 8},
		{api.OpAnd, 3, nil, false, [][2]int{{4, 2}, {10, 6}}, 12},
		{api.OpNand, 3, nil, false, [][2]int{{4, 2}, {10, 6}}, 13},
		{api.OpOr, 2, nil, false, [][2]int{{5, 3}}, 9},
		{api.OpOr, 3, nil, false, [][2]int{{5, 3}, {10, 7}}, 13},
		{api.OpNor, 3, nil, false, [][2]int{{5, 3}, {10, 7}}, 12},
		{api.OpXor, 2, nil, false, [][2]int{{5, 2}, {4, 3}, {11, 9}}, 13},
		{api.OpXnor, 2, nil, false, [][2]int{{5, 2}, {4, 3}, {11, 9}}, 12},
		{api.OpXor, 3, nil, false, [][2]int{{5, 2}, {4, 3}, {13, 11}, {15, 7}, {14, 6}, {19, 17}}, 21},
		{api.OpCover, 0, nil, true, nil, 1},
		{api.OpCover, 0, []string{""}, true, nil, 0},
		{api.OpCover, 2, []string{"1-", "-1"}, false, [][2]int{{5, 3}}, 9},
		{api.OpCover, 2, []string{"1-", "-1"}, true, [][2]int{{5, 3}}, 8},
		{api.OpCover, 3, []string{"11-", "1-1"}, false, [][2]int{{7, 5}, {11, 2}}, 12},
		{api.OpCover, 3, []string{"011"}, false, [][2]int{{4, 3}, {10, 6}}, 12},
		{api.OpCover, 2, []string{"01", "10"}, false, [][2]int{{4, 3}, {5, 2}, {11, 9}}, 13},
	} {
		c := of(x.op, x.n, x.rows, x.off)
		if x.n == 0 {
			c.Inputs = nil
		}
		m, e, name := lower.Lower(c)
		want := api.Model{
			Graph:  api.Graph{Ins: x.n, Next: []int{x.out}, Init: []int{1}, Ands: x.ands, Outs: []int{x.out}},
			Inputs: c.Inputs, Latches: []string{"q"}, Outputs: []string{"z"},
		}
		if !lower.Same(m, want) || e != api.OK || name != "" {
			t.Error(x, m.Graph, e, name)
		}
	}
}

func TestGatesComeInOrder(t *testing.T) {
	c := api.Circuit{Inputs: []string{"a", "b", "c"}, Outputs: []string{"x", "z"}, Gates: []api.Gate{
		{Name: "x", Op: api.OpAnd, Ins: []string{"y", "c"}},
		{Name: "w", Op: api.OpAnd, Ins: []string{"a", "c"}},
		{Name: "y", Op: api.OpAnd, Ins: []string{"b", "c"}},
		{Name: "z", Op: api.OpAnd, Ins: []string{"b", "a", "c"}},
	}}
	want := api.Graph{Ins: 3, Ands: [][2]int{{6, 4}, {8, 6}, {4, 2}, {12, 6}}, Outs: []int{10, 14}}
	if m, e, _ := lower.Lower(c); !aig.Same(m.Graph, want) || e != api.OK {
		t.Error(m.Graph, e)
	}
}

func TestLowerWrong(t *testing.T) {
	wide := api.Circuit{Outputs: []string{"g0"}}
	for i := range 8 {
		wide.Inputs = append(wide.Inputs, "i"+strconv.Itoa(i))
	}
	wide.Inputs = append(wide.Inputs, "j")
	for i := range 191 { // each one has its own first net, so that none of its ands is there yet
		first := "j"
		if i > 0 {
			first = "g" + strconv.Itoa(i-1)
		}
		wide.Gates = append(wide.Gates, api.Gate{Name: "g" + strconv.Itoa(i), Op: api.OpXor, Ins: append([]string{first}, wide.Inputs[:7]...)})
	}
	for i, x := range []struct {
		c    api.Circuit
		e    api.Errno
		name string
	}{
		{api.Circuit{Inputs: []string{"a", "a"}}, api.ErrTwice, "a"},
		{api.Circuit{Outputs: []string{"z"}}, api.ErrNone, "z"},
		{api.Circuit{Gates: []api.Gate{{Name: "y", Op: api.OpNot, Ins: []string{"z"}}, {Name: "z", Op: api.OpNot, Ins: []string{"y"}}}}, api.ErrLoop, "y"},
		{api.Circuit{Inputs: make([]string, 201)}, api.ErrLimit, ""},
		{wide, api.ErrLimit, ""},
	} {
		if m, e, name := lower.Lower(x.c); !lower.Same(m, api.Model{}) || e != x.e || name != x.name {
			t.Error(i, e, name)
		}
	}
	wide.Gates = wide.Gates[:190] // 9 inputs, and 190 times 7 times 3 ands
	if m, e, _ := lower.Lower(wide); e != api.OK || len(m.Graph.Ands) != 21 {
		t.Error(e, len(m.Graph.Ands))
	}
}

func TestGraphDoesWhatNetlistDoes(t *testing.T) {
	r := rand.New(rand.NewSource(4))
	size := sample.Size{Inputs: [2]int{1, 4}, Latches: [2]int{0, 3}, Gates: [2]int{0, 9}, Outputs: [2]int{1, 9}, Width: [2]int{2, 5}}
	for range 500 {
		c := sample.Circuit(r.Intn, size, "g")
		if e, name := order.Check(c); e != api.OK {
			t.Fatal(c, e, name)
		}
		m, e, name := lower.Lower(c)
		if e != api.OK || name != "" || lower.Check(m) != api.OK || !aig.Strict(m.Graph) {
			t.Fatal(c, m, e, name)
		}
		for x := range 1 << (len(c.Inputs) + len(c.Latches)) {
			ins, state := sample.Bits(x, len(c.Inputs)), sample.Bits(x>>len(c.Inputs), len(c.Latches))
			a, n, _ := step.Step(c, state, ins)
			b, o, _ := aig.Step(m.Graph, state, ins)
			if !slices.Equal(a, b) || !slices.Equal(n, o) {
				t.Fatal(c, m, state, ins)
			}
		}
	}
}

func TestLowerSharesNothing(t *testing.T) {
	c := of(api.OpNand, 2, nil, false)
	m, _, _ := lower.Lower(c)
	m.Inputs[0], m.Outputs[0] = "changed", "changed"
	if c.Inputs[0] != "i0" || c.Outputs[0] != "z" {
		t.Error(c)
	}
}
