package raise_test

import (
	"math/rand"
	"slices"
	"strconv"
	"testing"

	"patchbay/aig"
	"patchbay/api"
	"patchbay/lower"
	"patchbay/net"
	"patchbay/raise"
	"patchbay/sample"
)

func gate(op api.Op, name string, ins ...string) api.Gate {
	return api.Gate{Name: name, Op: op, Ins: ins}
}

func TestRaise(t *testing.T) {
	for i, x := range []struct {
		m    api.Model
		want api.Circuit
	}{
		{api.Model{}, api.Circuit{}},
		{
			api.Model{Graph: api.Graph{Ins: 2, Ands: [][2]int{{5, 2}}, Outs: []int{6}}, Inputs: []string{"a", "b"}, Outputs: []string{"z"}},
			api.Circuit{Inputs: []string{"a", "b"}, Outputs: []string{"z"}, Gates: []api.Gate{
				gate(api.OpNot, "n1", "b"), gate(api.OpAnd, "n2", "n1", "a"), gate(api.OpBuf, "z", "n2"),
			}},
		},
		{ // names that are taken, nets that are made once, constants for latches, and outputs of all kinds
			api.Model{
				Graph: api.Graph{
					Ins: 2, Next: []int{1, 13, 0, 1, 0}, Init: []int{0, 1, 2, 0, 0},
					Ands: [][2]int{{5, 3}, {16, 5}, {6, 4}}, Outs: []int{17, 18, 0, 1, 4, 6, 7, 17},
				},
				Inputs: []string{"n1", "a"}, Latches: []string{"q1", "q2", "n3", "q4", "q5"},
				Outputs: []string{"n4", "o1", "o2", "o3", "a", "q1", "o6", "o7"},
			},
			api.Circuit{
				Inputs: []string{"n1", "a"}, Outputs: []string{"n4", "o1", "o2", "o3", "a", "q1", "o6", "o7"},
				Latches: []api.Latch{{Name: "q1", Next: "n8"}, {Name: "q2", Next: "n9", Init: 1}, {Name: "n3", Next: "n10", Init: 2}, {Name: "q4", Next: "n8"}, {Name: "q5", Next: "n10"}},
				Gates: []api.Gate{
					gate(api.OpNot, "n2", "a"), gate(api.OpNot, "n5", "n1"), gate(api.OpAnd, "n6", "n2", "n5"), gate(api.OpAnd, "n7", "n6", "n2"),
					gate(api.OpOne, "n8"), gate(api.OpNot, "n9", "q4"), gate(api.OpZero, "n10"),
					gate(api.OpNot, "n4", "n6"), gate(api.OpBuf, "o1", "n7"), gate(api.OpZero, "o2"), gate(api.OpOne, "o3"),
					gate(api.OpNot, "o6", "q1"), gate(api.OpNot, "o7", "n6"),
				},
			},
		},
	} {
		if e := lower.Check(x.m); e != api.OK {
			t.Fatal(i, e)
		}
		c, e := raise.Raise(x.m)
		if !net.Same(c, x.want) || e != api.OK {
			t.Errorf("%d: %v\n%v %v", i, c, x.want, e)
		}
	}
}

func TestWrong(t *testing.T) {
	for i, m := range []api.Model{
		{Graph: api.Graph{Ins: -1}},
		{Graph: api.Graph{Outs: []int{2}}, Outputs: []string{"z"}},
		{Inputs: []string{"a"}},
		{Graph: api.Graph{Ins: 1}, Inputs: []string{""}},
		{Graph: api.Graph{Ins: 2}, Inputs: []string{"a", "a"}},
	} {
		want := lower.Check(m)
		if c, e := raise.Raise(m); !net.Same(c, api.Circuit{}) || e != want || e == api.OK {
			t.Error(i, c, e)
		}
		if n, e := raise.Normal(m); !lower.Same(n, api.Model{}) || e != want {
			t.Error(i, n, e)
		}
	}
}

// wide has so many inputs, and outputs that are an input as it is, or turned.
func wide(ins, outs int) api.Model {
	m := api.Model{Graph: api.Graph{Ins: ins}}
	for i := range ins {
		m.Inputs = append(m.Inputs, "i"+strconv.Itoa(i))
	}
	for i := range outs {
		m.Outputs = append(m.Outputs, "o"+strconv.Itoa(i))
		m.Graph.Outs = append(m.Graph.Outs, 2+i%2)
	}
	return m
}

func TestLimit(t *testing.T) {
	named := wide(200, 0)
	named.Outputs, named.Graph.Outs = slices.Clone(named.Inputs), nil
	for i := range 200 {
		named.Graph.Outs = append(named.Graph.Outs, 2*(i+1))
	}
	chain := wide(66, 0) // 66 inputs, 67 ands, 67 gates that turn one
	chain.Outputs = []string{"z"}
	last := 2
	for i := range 67 {
		chain.Graph.Ands = append(chain.Graph.Ands, [2]int{last + i%2, 4 + 2*(i%65)})
		last = 2 * (66 + len(chain.Graph.Ands))
	}
	chain.Graph.Outs = []int{last}
	more := wide(4000, 0)
	for i, x := range []struct {
		m api.Model
		e api.Errno
	}{
		{wide(200, 0), api.OK}, {wide(201, 0), api.ErrLimit}, {wide(1, 199), api.OK}, {wide(1, 200), api.ErrLimit}, {wide(2, 199), api.ErrLimit},
		{named, api.OK}, {chain, api.OK}, {more, api.ErrLimit}, {wide(1, 201), api.ErrLimit},
	} {
		c, e := raise.Raise(x.m)
		if e != x.e || e != api.OK && !net.Same(c, api.Circuit{}) {
			t.Error(i, e, len(net.Nets(c)))
		}
		if err, _ := net.Check(c); err != api.OK {
			t.Error(i, err)
		}
	}
}

func TestNormal(t *testing.T) {
	m := api.Model{Graph: api.Graph{Ins: 1, Ands: [][2]int{{2, 2}, {4, 2}}, Outs: []int{6}}, Inputs: []string{"a"}, Outputs: []string{"z"}}
	want := api.Model{Graph: api.Graph{Ins: 1, Outs: []int{2}}, Inputs: []string{"a"}, Outputs: []string{"z"}}
	n, e := raise.Normal(m)
	if !lower.Same(n, want) || e != api.OK {
		t.Error(n, e)
	}
	m.Latches, m.Graph.Next, m.Graph.Init = []string{"q"}, []int{3}, []int{1}
	m.Graph.Ands, m.Graph.Outs = nil, []int{2}
	n, _ = raise.Normal(m)
	n.Inputs[0], n.Outputs[0], n.Latches[0], n.Graph.Next[0], n.Graph.Init[0] = "x", "x", "x", 0, 0
	if m.Inputs[0] != "a" || m.Outputs[0] != "z" || m.Latches[0] != "q" || m.Graph.Next[0] != 3 || m.Graph.Init[0] != 1 {
		t.Error("Normal shares memory with the model")
	}
}

func TestGates(t *testing.T) {
	for i, x := range []struct {
		g api.Graph
		n int
	}{
		{api.Graph{}, 0},
		{api.Graph{Ins: -1}, 0},
		{api.Graph{Ins: 2, Ands: [][2]int{{5, 2}}, Outs: []int{7}}, 2},
		{api.Graph{Ins: 2, Ands: [][2]int{{5, 2}}, Outs: []int{3}}, 0},
		{api.Graph{Ins: 2, Ands: [][2]int{{5, 3}, {4, 3}, {5, 2}}, Outs: []int{7, 9, 11}}, 5},
		{api.Graph{Next: []int{3, 0, 3, 1}, Init: []int{0, 0, 0, 0}}, 2},
		{api.Graph{Ins: 2, Next: []int{9, 5}, Init: []int{0, 0}, Ands: [][2]int{{5, 2}}}, 2},
		{api.Graph{Ins: 1, Ands: [][2]int{{2, 1}}, Outs: []int{5}}, 0},
	} {
		if n := raise.Gates(x.g); n != x.n {
			t.Error(i, n, "want", x.n)
		}
	}
}

func TestRaisedAndLoweredIsTheSameModel(t *testing.T) {
	r := rand.New(rand.NewSource(5))
	size := sample.Size{Inputs: [2]int{0, 3}, Latches: [2]int{0, 3}, Gates: [2]int{0, 11}, Outputs: [2]int{0, 4}}
	for range 2000 {
		m := sample.Model(r.Intn, size, "n")
		if len(m.Inputs) > 0 && r.Intn(2) == 0 {
			m.Outputs, m.Graph.Outs = append(m.Outputs, m.Inputs[0]), append(m.Graph.Outs, 2)
		}
		n, e := raise.Normal(m)
		if e != api.OK || !aig.Strict(n.Graph) {
			t.Fatal(m, n, e)
		}
		c, e := raise.Raise(m)
		if e != api.OK {
			t.Fatal(m, e)
		}
		back, e, name := lower.Lower(c)
		if !lower.Same(back, n) || e != api.OK {
			t.Fatal(m, c, back, e, name)
		}
		inner := len(c.Gates)
		for _, s := range c.Outputs {
			if lower.Place(n, s) < 0 {
				inner--
			}
		}
		zero := 0
		if slices.Contains(n.Graph.Next, 0) {
			zero = 1
		}
		if inner != raise.Gates(m.Graph)+zero {
			t.Fatal(m, c, inner, raise.Gates(m.Graph))
		}
	}
}
