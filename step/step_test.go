package step_test

import (
	"slices"
	"strings"
	"testing"

	"patchbay/api"
	"patchbay/net"
	"patchbay/step"
)

// ones is how many values are true.
func ones(l []bool) int {
	n := 0
	for _, v := range l {
		if v {
			n++
		}
	}
	return n
}

func valuesOf(x, n int) []bool {
	l := make([]bool, n)
	for i := range l {
		l[i] = x>>i&1 == 1
	}
	return l
}

func TestGate(t *testing.T) {
	want := map[api.Op]func(ones, n int) bool{
		api.OpZero: func(ones, n int) bool { return false },
		api.OpOne:  func(ones, n int) bool { return true },
		api.OpBuf:  func(ones, n int) bool { return ones == 1 },
		api.OpNot:  func(ones, n int) bool { return ones == 0 },
		api.OpAnd:  func(ones, n int) bool { return ones == n },
		api.OpNand: func(ones, n int) bool { return ones < n },
		api.OpOr:   func(ones, n int) bool { return ones > 0 },
		api.OpNor:  func(ones, n int) bool { return ones == 0 },
		api.OpXor:  func(ones, n int) bool { return ones%2 == 1 },
		api.OpXnor: func(ones, n int) bool { return ones%2 == 0 },
	}
	for op, f := range want {
		for n := range 9 {
			g := api.Gate{Op: op, Ins: make([]string, n)}
			for x := range 1 << n {
				ins := valuesOf(x, n)
				got, e := step.Gate(g, ins)
				if !net.Gate(g) {
					if got || e != api.ErrArg {
						t.Fatal(g, got, e)
					}
				} else if got != f(ones(ins), n) || e != api.OK {
					t.Fatal(g, ins, got, e)
				}
			}
		}
	}
}

func TestCover(t *testing.T) {
	for _, x := range []struct {
		rows []string
		off  bool
		want string // for the Ins 00, 10, 01, 11
	}{
		{nil, false, "0000"}, {nil, true, "1111"}, {[]string{"--"}, false, "1111"}, {[]string{"--"}, true, "0000"},
		{[]string{"1-"}, false, "0101"}, {[]string{"-0"}, false, "1100"}, {[]string{"01", "10"}, false, "0110"}, {[]string{"01", "10"}, true, "1001"},
	} {
		g := api.Gate{Op: api.OpCover, Ins: []string{"a", "b"}, Rows: x.rows, Off: x.off}
		for i := range 4 {
			if got, e := step.Gate(g, valuesOf(i, 2)); got != (x.want[i] == '1') || e != api.OK {
				t.Error(x, i, got, e)
			}
		}
	}
}

func TestGateWrong(t *testing.T) {
	for i, x := range []struct {
		g   api.Gate
		ins []bool
	}{
		{api.Gate{Op: api.OpBuf, Ins: []string{"a"}}, nil},
		{api.Gate{Op: api.OpOne}, []bool{true}},
		{api.Gate{Op: api.OpOr, Ins: []string{"a", "b"}}, []bool{true}},
		{api.Gate{Op: -1}, nil}, {api.Gate{Op: 11}, nil},
		{api.Gate{Op: api.OpOne, Off: true}, nil},
		{api.Gate{Op: api.OpCover, Rows: []string{"1"}}, nil},
	} {
		if v, e := step.Gate(x.g, x.ins); v || e != api.ErrArg {
			t.Error(i, v, e)
		}
	}
}

// machines: a counter of two bits that counts while en is true, and has a latch that may begin either way.
func counter() api.Circuit {
	return api.Circuit{
		Inputs:  []string{"en"},
		Outputs: []string{"q1", "q0", "x", "en"},
		Latches: []api.Latch{{Name: "q0", Next: "d0"}, {Name: "q1", Next: "d1", Init: 1}, {Name: "x", Next: "nx", Init: 2}},
		Gates: []api.Gate{
			{Name: "d1", Op: api.OpXor, Ins: []string{"q1", "c"}},
			{Name: "c", Op: api.OpAnd, Ins: []string{"q0", "en"}},
			{Name: "d0", Op: api.OpCover, Ins: []string{"q0", "en"}, Rows: []string{"01", "10"}},
			{Name: "nx", Op: api.OpNot, Ins: []string{"x"}},
		},
	}
}

func bad() []api.Circuit {
	loop := counter()
	loop.Gates[1].Ins[1] = "d1"
	return []api.Circuit{loop, {Outputs: []string{"z"}}, {Inputs: []string{"a b"}}}
}

func TestOfWrong(t *testing.T) {
	for i, c := range bad() {
		state, ins := make([]bool, len(c.Latches)), make([]bool, len(c.Inputs))
		if l, e := step.Start(c, nil); l != nil || e != api.ErrArg {
			t.Error(i, l, e)
		}
		if step.Allowed(c, []bool{false, true, false}) || step.Allowed(c, state) {
			t.Error(i)
		}
		if l, e := step.Values(c, state, ins); l != nil || e != api.ErrArg {
			t.Error(i, l, e)
		}
		if l, m, e := step.Step(c, nil, nil); l != nil || m != nil || e != api.ErrArg {
			t.Error(i, l, m, e)
		}
		if l, m, e := step.Run(c, state, make([][]bool, 41)); l != nil || m != nil || e != api.ErrArg {
			t.Error(i, l, m, e)
		}
	}
}

func TestStartAndAllowed(t *testing.T) {
	c := counter()
	c.Latches = append(c.Latches, api.Latch{Name: "y", Next: "y", Init: 2})
	for _, x := range []struct{ picks, want []bool }{
		{nil, []bool{false, true, false, false}},
		{[]bool{true}, []bool{false, true, true, false}},
		{[]bool{false, true, true, true}, []bool{false, true, false, true}},
	} {
		state, e := step.Start(c, x.picks)
		if !slices.Equal(state, x.want) || e != api.OK || !step.Allowed(c, state) {
			t.Error(x, state, e)
		}
	}
	for _, state := range [][]bool{nil, {false, true, false}, {false, true, false, false, false}, {true, true, false, false}, {false, false, false, false}} {
		if step.Allowed(c, state) {
			t.Error(state)
		}
	}
	if state, e := step.Start(api.Circuit{}, []bool{true}); len(state) != 0 || e != api.OK || !step.Allowed(api.Circuit{}, nil) {
		t.Error(state, e)
	}
}

func bits(s string) []bool {
	var l []bool
	for _, c := range strings.ReplaceAll(s, " ", "") {
		l = append(l, c == '1')
	}
	return l
}

func TestValues(t *testing.T) {
	// en; q0, q1, x; d1, c, d0, nx
	for _, want := range []string{"0 000 0 0 0 1", "1 000 0 0 1 1", "1 100 1 1 0 1", "1 111 0 1 0 0", "0 110 1 0 1 1"} {
		all := bits(want)
		l, e := step.Values(counter(), all[1:4], all[:1])
		if !slices.Equal(l, all) || e != api.OK {
			t.Error(want, l, e)
		}
	}
}

func TestNothingBehindIsChanged(t *testing.T) {
	all := bits("1 100 000")
	if l, e := step.Values(counter(), all[1:4], all[:1]); !slices.Equal(l, bits("1 100 1 1 0 1")) || e != api.OK {
		t.Error(l, e)
	}
	if !slices.Equal(all, bits("1 100 000")) {
		t.Error(all)
	}
}

func TestStep(t *testing.T) {
	outs, next, e := step.Step(counter(), bits("100"), bits("1"))
	if !slices.Equal(outs, bits("0101")) || !slices.Equal(next, bits("011")) || e != api.OK {
		t.Error(outs, next, e)
	}
}

func TestWrongState(t *testing.T) {
	c := counter()
	for i, x := range [][2][]bool{{nil, bits("1")}, {bits("1111"), bits("1")}, {bits("000"), nil}, {bits("000"), bits("11")}} {
		if l, e := step.Values(c, x[0], x[1]); l != nil || e != api.ErrState {
			t.Error(i, l, e)
		}
		if l, m, e := step.Step(c, x[0], x[1]); l != nil || m != nil || e != api.ErrState {
			t.Error(i, l, m, e)
		}
		if l, m, e := step.Run(c, x[0], [][]bool{x[1]}); l != nil || m != nil || e != api.ErrState {
			t.Error(i, l, m, e)
		}
		if l, m, e := step.Run(c, bits("000"), [][]bool{bits("1"), nil}); l != nil || m != nil || e != api.ErrState {
			t.Error(i, l, m, e)
		}
	}
	if l, m, e := step.Run(c, nil, nil); l != nil || m != nil || e != api.ErrState {
		t.Error(l, m, e)
	}
}

func TestRun(t *testing.T) {
	c := counter()
	seq := [][]bool{bits("1"), bits("1"), bits("0"), bits("1"), bits("1")}
	rows, last, e := step.Run(c, bits("000"), seq)
	want := []string{"0001", "0111", "1000", "1011", "1101"}
	for i, w := range want {
		if i >= len(rows) || !slices.Equal(rows[i], bits(w)) {
			t.Fatal(rows)
		}
	}
	if len(rows) != 5 || !slices.Equal(last, bits("001")) || e != api.OK {
		t.Error(rows, last, e)
	}
	state := bits("110")
	rows, last, e = step.Run(c, state, nil)
	if len(rows) != 0 || !slices.Equal(last, state) || e != api.OK {
		t.Error(rows, last, e)
	}
	last[0] = false
	if !state[0] {
		t.Error("Run shares memory with its state")
	}
}

func TestRunOfManySteps(t *testing.T) {
	c := api.Circuit{Outputs: []string{"q"}, Latches: []api.Latch{{Name: "q", Next: "n"}}, Gates: []api.Gate{{Name: "n", Op: api.OpNot, Ins: []string{"q"}}}}
	rows, last, e := step.Run(c, []bool{false}, make([][]bool, 40))
	if len(rows) != 40 || last[0] || e != api.OK {
		t.Error(len(rows), last, e)
	}
	for i, row := range rows {
		if row[0] != (i%2 == 1) {
			t.Error(i, row)
		}
	}
	if rows, last, e := step.Run(c, nil, make([][]bool, 41)); rows != nil || last != nil || e != api.ErrLimit {
		t.Error(rows, last, e)
	}
}

func TestOrderOfGatesDoesNotMatter(t *testing.T) {
	c := counter()
	d := counter()
	slices.Reverse(d.Gates)
	d.Gates = append(d.Gates, api.Gate{Name: "more", Op: api.OpNor, Ins: []string{"c", "x"}})
	for x := range 16 {
		state, ins := valuesOf(x, 3), []bool{x>>3 == 1}
		a, m, _ := step.Step(c, state, ins)
		b, n, _ := step.Step(d, state, ins)
		if !slices.Equal(a, b) || !slices.Equal(m, n) {
			t.Error(x, a, b, m, n)
		}
	}
}
