package order_test

import (
	"math/rand"
	"slices"
	"strconv"
	"testing"

	"patchbay/api"
	"patchbay/net"
	"patchbay/order"
)

func gate(name string, ins ...string) api.Gate {
	op := api.OpAnd
	switch len(ins) {
	case 0:
		op = api.OpZero
	case 1:
		op = api.OpNot
	}
	return api.Gate{Name: name, Op: op, Ins: ins}
}

// wrong are netlists that net.Check tells an error of.
func wrong() []api.Circuit {
	return []api.Circuit{
		{Inputs: []string{""}},
		{Inputs: []string{"a", "a"}},
		{Outputs: []string{"z"}},
		{Gates: []api.Gate{{Name: "z", Op: api.OpBuf}}},
		{Inputs: make([]string, 201)},
	}
}

func TestSort(t *testing.T) {
	for i, x := range []struct {
		gates  []api.Gate
		places []int
		never  []string
	}{
		{nil, nil, nil},
		{[]api.Gate{gate("z", "y"), gate("y", "a")}, []int{1, 0}, nil},
		{[]api.Gate{gate("z", "a", "q"), gate("y", "b")}, []int{0, 1}, nil},
		{[]api.Gate{gate("z", "y", "y"), gate("y")}, []int{1, 0}, nil},
		{[]api.Gate{gate("v", "x"), gate("w", "y"), gate("x", "y"), gate("y"), gate("z")}, []int{3, 1, 2, 0, 4}, nil},
		{[]api.Gate{gate("z", "z")}, nil, []string{"z"}},
		{[]api.Gate{gate("w", "z"), gate("x", "a"), gate("y", "z", "x"), gate("z", "y")}, []int{1}, []string{"w", "y", "z"}},
		{[]api.Gate{gate("z", "q")}, []int{0}, nil},
	} {
		c := api.Circuit{Inputs: []string{"a", "b"}, Latches: []api.Latch{{Name: "q", Next: "q"}}, Gates: x.gates}
		places, never := order.Sort(c)
		if !slices.Equal(places, x.places) || !slices.Equal(never, x.never) {
			t.Error(i, places, never)
		}
		e, name := order.Check(c)
		if len(x.never) == 0 && (e != api.OK || name != "") || len(x.never) > 0 && (e != api.ErrLoop || name != x.never[0]) {
			t.Error(i, e, name)
		}
	}
}

func TestOfWrongNothing(t *testing.T) {
	for i, c := range wrong() {
		if places, never := order.Sort(c); places != nil || never != nil {
			t.Error(i, places, never)
		}
		want, wantName := net.Check(c)
		if e, name := order.Check(c); e != want || name != wantName || e == api.OK {
			t.Error(i, e, name)
		}
		if l := order.Levels(c); l != nil {
			t.Error(i, l)
		}
		if l := order.Cone(c, []string{"", "a", "z"}); l != nil {
			t.Error(i, l)
		}
		if u := order.Trim(c); !net.Same(u, api.Circuit{}) {
			t.Error(i, u)
		}
	}
}

func TestErrorsAheadOfLoop(t *testing.T) {
	c := api.Circuit{Gates: []api.Gate{gate("z", "z"), gate("y", "none")}}
	if e, name := order.Check(c); e != api.ErrNone || name != "none" {
		t.Error(e, name)
	}
}

func TestLevels(t *testing.T) {
	c := api.Circuit{Inputs: []string{"a"}, Latches: []api.Latch{{Name: "q", Next: "z"}}, Gates: []api.Gate{
		gate("v", "z", "a"), gate("w", "a", "q"), gate("x", "w"), gate("y", "x", "w"), gate("z", "y", "w"), gate("r", "s"), gate("s", "r"), gate("t", "s", "a"), gate("u"),
	}}
	if l := order.Levels(c); !slices.Equal(l, []int{4, 0, 1, 2, 3, -1, -1, -1, 0}) {
		t.Error(l)
	}
}

func TestCone(t *testing.T) {
	c := api.Circuit{Inputs: []string{"a", "b"}, Latches: []api.Latch{{Name: "q", Next: "y"}, {Name: "p", Next: "p"}}, Gates: []api.Gate{
		gate("z", "y"), gate("y", "x"), gate("x", "a"), gate("w", "v"), gate("v", "w", "b"), gate("u", "q"),
	}}
	for _, x := range []struct{ nets, want []string }{
		{nil, nil},
		{[]string{"none", ""}, nil},
		{[]string{"a"}, []string{"a"}},
		{[]string{"z"}, []string{"a", "z", "y", "x"}},
		{[]string{"u"}, []string{"a", "q", "y", "x", "u"}},
		{[]string{"w"}, []string{"b", "w", "v"}},
		{[]string{"p", "p", "b", "none"}, []string{"b", "p"}},
	} {
		if l := order.Cone(c, x.nets); !slices.Equal(l, x.want) {
			t.Error(x.nets, l)
		}
	}
}

func TestTrim(t *testing.T) {
	c := api.Circuit{Inputs: []string{"a", "b"}, Outputs: []string{"u", "b"}, Latches: []api.Latch{{Name: "p", Next: "p"}, {Name: "q", Next: "y", Init: 2}}, Gates: []api.Gate{
		gate("z", "y"), gate("y", "a"), {Name: "u", Op: api.OpCover, Ins: []string{"q"}, Rows: []string{"-"}, Off: true}, gate("w", "w"),
	}}
	want := api.Circuit{Inputs: c.Inputs, Outputs: c.Outputs, Latches: c.Latches[1:], Gates: c.Gates[1:3]}
	u := order.Trim(c)
	if !net.Same(u, want) {
		t.Error(u)
	}
	u.Inputs[0], u.Outputs[0], u.Latches[0].Name, u.Gates[1].Ins[0], u.Gates[1].Rows[0] = "x", "x", "x", "x", "x"
	if c.Inputs[0] != "a" || c.Outputs[0] != "u" || c.Latches[1].Name != "q" || c.Gates[2].Ins[0] != "q" || c.Gates[2].Rows[0] != "-" {
		t.Error("Trim shares memory with the netlist")
	}
	if u := order.Trim(api.Circuit{Inputs: []string{"a"}}); !net.Same(u, api.Circuit{Inputs: []string{"a"}}) {
		t.Error(u)
	}
}

// sortSlowly is Sort word by word: each time the first gate that is not there yet and waits for none.
func sortSlowly(c api.Circuit) []int {
	var l []int
	for {
		next := slices.IndexFunc(c.Gates, func(g api.Gate) bool {
			i := net.Place(api.Circuit{Gates: c.Gates}, g.Name)
			return !slices.Contains(l, i) && !slices.ContainsFunc(g.Ins, func(s string) bool {
				j := net.Place(api.Circuit{Gates: c.Gates}, s)
				return j >= 0 && !slices.Contains(l, j)
			})
		})
		if next < 0 {
			return l
		}
		l = append(l, next)
	}
}

func TestEachGateComesBehindThoseItWaitsFor(t *testing.T) {
	r := rand.New(rand.NewSource(1))
	for range 300 {
		n := 1 + r.Intn(12)
		c := api.Circuit{Inputs: []string{"a"}}
		for i := range n {
			ins := make([]string, r.Intn(4))
			for j := range ins {
				ins[j] = "a"
				if r.Intn(3) > 0 {
					ins[j] = "g" + strconv.Itoa((i+1+r.Intn(n))%n)
				}
			}
			c.Gates = append(c.Gates, gate("g"+strconv.Itoa(i), ins...))
		}
		places, never := order.Sort(c)
		if want := sortSlowly(c); !slices.Equal(places, want) || len(places)+len(never) != n {
			t.Fatal(c, places, want, never)
		}
		levels := order.Levels(c)
		for i, g := range c.Gates {
			if (levels[i] < 0) != slices.Contains(never, g.Name) {
				t.Fatal(c, levels, never)
			}
		}
	}
}
