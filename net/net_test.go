package net_test

import (
	"slices"
	"strconv"
	"strings"
	"testing"

	"patchbay/api"
	"patchbay/net"
)

func many(stem string, n int) []string {
	var l []string
	for i := range n {
		l = append(l, stem+strconv.Itoa(i))
	}
	return l
}

// small is a netlist of one of each thing.
func small() api.Circuit {
	return api.Circuit{
		Inputs:  []string{"a", "b"},
		Outputs: []string{"z", "q"},
		Latches: []api.Latch{{Name: "q", Next: "z", Init: 2}},
		Gates: []api.Gate{
			{Name: "z", Op: api.OpAnd, Ins: []string{"a", "q"}},
			{Name: "y", Op: api.OpCover, Ins: []string{"b", "z"}, Rows: []string{"1-", "01"}, Off: true},
		},
	}
}

func TestCheckOfGood(t *testing.T) {
	full := api.Circuit{Inputs: many("i", 200), Outputs: many("i", 200)}
	rows := api.Circuit{Inputs: many("i", 8), Gates: []api.Gate{{Name: "z", Op: api.OpCover, Ins: many("i", 8), Rows: slices.Repeat([]string{"01-01-01"}, 128)}}}
	begins := api.Circuit{Latches: []api.Latch{{Name: "p", Next: "p"}, {Name: "q", Next: "p", Init: 1}, {Name: "r", Next: "p", Init: 2}}}
	loop := api.Circuit{Gates: []api.Gate{{Name: "z", Op: api.OpNot, Ins: []string{"z"}}}}
	for i, c := range []api.Circuit{{}, small(), full, rows, begins, loop} {
		if e, name := net.Check(c); e != api.OK || name != "" {
			t.Error(i, e, name)
		}
	}
}

// What stands behind a list, in the same memory, is not changed either.
func TestNothingBehindIsChanged(t *testing.T) {
	names := []string{"a", "z", "behind"}
	c := small()
	c.Inputs, c.Outputs = names[:1], names[1:2]
	c.Gates[1].Ins[0] = "a"
	if e, name := net.Check(c); e != api.OK {
		t.Error(e, name)
	}
	net.Nets(c)
	if !slices.Equal(names, []string{"a", "z", "behind"}) {
		t.Error(names)
	}
}

func TestCheckOfWrong(t *testing.T) {
	for i, x := range []struct {
		change func(c *api.Circuit)
		e      api.Errno
		name   string
	}{
		{func(c *api.Circuit) { c.Inputs = many("", 197) }, api.ErrNone, "a"},
		{func(c *api.Circuit) { c.Inputs = many("", 198); c.Gates[0].Name = "" }, api.ErrLimit, ""},
		{func(c *api.Circuit) { c.Outputs = make([]string, 201) }, api.ErrLimit, ""},
		{func(c *api.Circuit) { c.Gates[1].Ins = make([]string, 9); c.Inputs[0] = "" }, api.ErrLimit, ""},
		{func(c *api.Circuit) { c.Gates[1].Rows = make([]string, 129); c.Inputs[0] = "" }, api.ErrLimit, ""},
		{func(c *api.Circuit) { c.Inputs[1], c.Outputs[0] = "a b", "" }, api.ErrName, "a b"},
		{func(c *api.Circuit) { c.Outputs[1], c.Latches[0].Name = "", "\n" }, api.ErrName, ""},
		{func(c *api.Circuit) { c.Latches[0].Name, c.Latches[0].Next = "\r", "\n" }, api.ErrName, "\r"},
		{func(c *api.Circuit) { c.Latches[0].Next, c.Gates[0].Name = "\n", " " }, api.ErrName, "\n"},
		{func(c *api.Circuit) { c.Gates[0].Ins[1], c.Gates[1].Name = " ", "\n" }, api.ErrName, " "},
		{func(c *api.Circuit) { c.Gates[0].Name, c.Gates[0].Ins[0] = "\t", " " }, api.ErrName, "\t"},
		{func(c *api.Circuit) { c.Gates[1].Ins[1], c.Inputs[1] = " ", "a" }, api.ErrName, " "},
		{func(c *api.Circuit) { c.Inputs[1] = "a"; c.Latches[0].Init = 3 }, api.ErrTwice, "a"},
		{func(c *api.Circuit) { c.Latches[0].Name = "a"; c.Gates[1].Name = "b" }, api.ErrTwice, "a"},
		{func(c *api.Circuit) { c.Gates[0].Name = "q"; c.Outputs[1] = "z" }, api.ErrTwice, "q"},
		{func(c *api.Circuit) { c.Gates[1].Name = "z" }, api.ErrTwice, "z"},
		{func(c *api.Circuit) { c.Outputs[1] = "z"; c.Gates[0].Off = true }, api.ErrTwice, "z"},
		{func(c *api.Circuit) { c.Latches[0].Init = 3; c.Gates[0].Off = true }, api.ErrArg, "q"},
		{func(c *api.Circuit) { c.Latches[0].Init = -1 }, api.ErrArg, "q"},
		{func(c *api.Circuit) { c.Gates[0].Off = true; c.Outputs[0] = "none" }, api.ErrArg, "z"},
		{func(c *api.Circuit) { c.Gates[1].Rows[1] = "0" }, api.ErrArg, "y"},
		{func(c *api.Circuit) { c.Outputs[0], c.Latches[0].Next = "no", "none" }, api.ErrNone, "no"},
		{func(c *api.Circuit) { c.Latches[0].Next, c.Gates[0].Ins[0] = "no", "none" }, api.ErrNone, "no"},
		{func(c *api.Circuit) { c.Gates[0].Ins[1], c.Gates[1].Ins[0] = "no", "none" }, api.ErrNone, "no"},
		{func(c *api.Circuit) { c.Gates[1].Ins[1] = "no" }, api.ErrNone, "no"},
	} {
		c := small()
		x.change(&c)
		if e, name := net.Check(c); e != x.e || name != x.name {
			t.Errorf("%d: %v %q, want %v %q", i, e, name, x.e, x.name)
		}
	}
}

// same tells whether two gates are alike.
func same(g, h api.Gate) bool {
	return net.Same(api.Circuit{Gates: []api.Gate{g}}, api.Circuit{Gates: []api.Gate{h}})
}

func TestNetsAndPlace(t *testing.T) {
	c := small()
	l := net.Nets(c)
	if !slices.Equal(l, []string{"a", "b", "q", "z", "y"}) {
		t.Error(l)
	}
	for i, s := range l {
		if net.Place(c, s) != i {
			t.Error(s)
		}
	}
	c.Gates[1].Name = "a"
	if net.Place(c, "a") != 0 || net.Place(c, "y") != -1 || net.Place(api.Circuit{}, "") != -1 {
		t.Error("place")
	}
	l[0] = "changed"
	if c.Inputs[0] != "a" {
		t.Error("Nets shares memory with the netlist")
	}
	d := api.Circuit{Inputs: []string{"a"}}
	net.Nets(d)[0] = "changed"
	if d.Inputs[0] != "a" {
		t.Error("Nets shares memory with the inputs")
	}
}

func TestGate(t *testing.T) {
	least := map[api.Op][2]int{api.OpZero: {0, 0}, api.OpOne: {0, 0}, api.OpBuf: {1, 1}, api.OpNot: {1, 1}, api.OpCover: {0, 8}}
	for op := api.Op(-1); op <= api.OpCover+1; op++ {
		may, ok := least[op]
		if !ok {
			may = [2]int{2, 8}
		}
		for n := range 11 {
			want := may[0] <= n && n <= may[1] && op >= 0 && op <= api.OpCover
			if net.Gate(api.Gate{Op: op, Ins: make([]string, n)}) != want {
				t.Error(op, n)
			}
			row := []string{strings.Repeat("-", n)}
			if net.Gate(api.Gate{Op: op, Ins: make([]string, n), Rows: row}) != (want && op == api.OpCover) {
				t.Error("rows", op, n)
			}
			if net.Gate(api.Gate{Op: op, Ins: make([]string, n), Off: true}) != (want && op == api.OpCover) {
				t.Error("off", op, n)
			}
		}
	}
	for _, row := range []string{"", "1", "111", "1x", "2-", " 1", "0-1", "1\x00"} {
		if net.Gate(api.Gate{Op: api.OpCover, Ins: []string{"a", "b"}, Rows: []string{"01", row}}) {
			t.Errorf("%q", row)
		}
	}
	if net.Gate(api.Gate{Op: api.OpCover, Ins: []string{"a"}, Rows: slices.Repeat([]string{"1"}, 129)}) {
		t.Error("129 rows")
	}
}

func TestCanonOfOne(t *testing.T) {
	for op := api.OpZero; op <= api.OpCover+1; op++ {
		want := op
		switch op {
		case api.OpAnd, api.OpOr, api.OpXor:
			want = api.OpBuf
		case api.OpNand, api.OpNor, api.OpXnor:
			want = api.OpNot
		}
		g := api.Gate{Name: "z", Op: op, Ins: []string{"a"}}
		if h := net.Canon(g); h.Op != want || h.Name != "z" || !slices.Equal(h.Ins, g.Ins) {
			t.Error(g, h)
		}
		for _, g := range []api.Gate{
			{Name: "z", Op: op, Ins: []string{"a", "b"}},
			{Name: "z", Op: op, Ins: []string{"a"}, Rows: []string{"-"}},
			{Name: "z", Op: op, Ins: []string{"a"}, Off: true},
			{Name: "z", Op: op, Ins: make([]string, 9)},
		} {
			if h := net.Canon(g); !same(g, h) {
				t.Error(g, h)
			}
		}
	}
}

// rowsWhere are all rows of 0s and 1s, rising, that are asked for.
func rowsWhere(n int, want func(ones int) bool) []string {
	var l []string
	for x := range 1 << n {
		row := strings.Repeat("0", n) + strconv.FormatInt(int64(x), 2)
		row = row[len(row)-n:]
		if want(strings.Count(row, "1")) {
			l = append(l, row)
		}
	}
	return l
}

func TestCanonOfCovers(t *testing.T) {
	for n := range 9 {
		ins := many("i", n)
		for _, x := range []struct {
			rows []string
			off  bool
			op   api.Op
			may  bool
		}{
			{nil, false, api.OpZero, n == 0},
			{[]string{""}, false, api.OpOne, n == 0},
			{[]string{"1"}, false, api.OpBuf, n == 1},
			{[]string{"0"}, false, api.OpNot, n == 1},
			{[]string{strings.Repeat("1", n)}, false, api.OpAnd, n >= 2},
			{[]string{strings.Repeat("1", n)}, true, api.OpNand, n >= 2},
			{[]string{strings.Repeat("0", n)}, true, api.OpOr, n >= 2},
			{[]string{strings.Repeat("0", n)}, false, api.OpNor, n >= 2},
			{rowsWhere(n, func(ones int) bool { return ones%2 == 1 }), false, api.OpXor, n >= 2},
			{rowsWhere(n, func(ones int) bool { return ones%2 == 0 }), false, api.OpXnor, n >= 2},
		} {
			if !x.may {
				continue
			}
			g := api.Gate{Name: "z", Op: api.OpCover, Ins: ins, Rows: x.rows, Off: x.off}
			want := api.Gate{Name: "z", Op: x.op, Ins: ins}
			if h := net.Canon(g); !same(h, want) {
				t.Error(n, h, "want", want)
			}
			if x.op == api.OpZero || x.op == api.OpOne || x.op == api.OpXor || x.op == api.OpXnor || n == 1 {
				g.Off = true
				if h := net.Canon(g); !same(h, g) {
					t.Error("off", n, h)
				}
			}
		}
	}
}

func TestCanonLeavesOtherCovers(t *testing.T) {
	two, three := []string{"a", "b"}, []string{"a", "b", "c"}
	for _, g := range []api.Gate{
		{Ins: two}, {Ins: two, Off: true}, {Off: true}, {Rows: []string{""}, Off: true}, {Rows: []string{"", ""}},
		{Ins: two, Rows: []string{"11", "11"}}, {Ins: two, Rows: []string{"10", "01"}}, {Ins: two, Rows: []string{"01"}},
		{Ins: two, Rows: []string{"1-", "-1"}}, {Ins: two, Rows: []string{"01", "10", "11"}}, {Ins: two, Rows: []string{"--"}},
		{Ins: three, Rows: []string{"11"}}, {Ins: three, Rows: []string{"1111"}}, {Ins: three, Rows: []string{"001", "010", "100"}},
		{Ins: make([]string, 9), Rows: []string{"111111111"}}, {Ins: two, Rows: []string{"0x"}}, {Ins: []string{"a"}, Rows: []string{"-"}},
	} {
		g.Name, g.Op = "z", api.OpCover
		h := net.Canon(g)
		if !same(g, h) || !same(net.Canon(h), h) {
			t.Error(g, h)
		}
	}
}

func TestCanonTwiceIsCanon(t *testing.T) {
	signs := []string{"0", "1", "-"}
	for _, a := range signs {
		for _, b := range signs {
			for _, c := range signs {
				for _, d := range signs {
					for _, off := range []bool{false, true} {
						g := api.Gate{Name: "z", Op: api.OpCover, Ins: []string{"a", "b"}, Rows: []string{a + b, c + d}, Off: off}
						h := net.Canon(g)
						if !net.Gate(g) || !net.Gate(h) || !same(net.Canon(h), h) {
							t.Error(g, h)
						}
					}
				}
			}
		}
	}
}

func TestCanonSharesNothing(t *testing.T) {
	g := small().Gates[1]
	h := net.Canon(g)
	h.Ins[0], h.Rows[0] = "changed", "changed"
	if !same(g, small().Gates[1]) {
		t.Error(g)
	}
	g = small().Gates[0]
	net.Canon(g).Ins[0] = "changed"
	if g.Ins[0] != "a" {
		t.Error(g)
	}
}

func TestSame(t *testing.T) {
	if !net.Same(small(), small()) || !net.Same(api.Circuit{}, api.Circuit{Inputs: []string{}, Gates: []api.Gate{}}) {
		t.Error("alike, and told not to be")
	}
	empty := small()
	empty.Gates[0].Rows = []string{}
	if !net.Same(empty, small()) {
		t.Error("nil and empty")
	}
	for i, change := range []func(c *api.Circuit){
		func(c *api.Circuit) { c.Inputs[0] = "x" },
		func(c *api.Circuit) { c.Inputs = c.Inputs[:1] },
		func(c *api.Circuit) { c.Outputs[0], c.Outputs[1] = "q", "z" },
		func(c *api.Circuit) { c.Latches[0].Init = 1 },
		func(c *api.Circuit) { c.Latches[0].Next = "a" },
		func(c *api.Circuit) { c.Latches = nil },
		func(c *api.Circuit) { c.Gates[0].Op = api.OpOr },
		func(c *api.Circuit) { c.Gates[0].Name = "x" },
		func(c *api.Circuit) { c.Gates[0].Ins[0] = "x" },
		func(c *api.Circuit) { c.Gates[1].Rows[0] = "11" },
		func(c *api.Circuit) { c.Gates[1].Off = false },
		func(c *api.Circuit) { c.Gates = c.Gates[:1] },
	} {
		c := small()
		change(&c)
		if net.Same(c, small()) || net.Same(small(), c) {
			t.Error(i)
		}
	}
}
