package bench_test

import (
	"math/rand"
	"slices"
	"strconv"
	"strings"
	"testing"

	"patchbay/api"
	"patchbay/bench"
	"patchbay/net"
	"patchbay/order"
	"patchbay/sample"
	"patchbay/spot"
	"patchbay/step"
)

func gate(op api.Op, name string, ins ...string) api.Gate {
	return api.Gate{Name: name, Op: op, Ins: ins}
}

func covered(name string, off bool, ins string, rows ...string) api.Gate {
	return api.Gate{Name: name, Op: api.OpCover, Ins: strings.Fields(ins), Rows: rows, Off: off}
}

func TestExpand(t *testing.T) {
	for i, x := range []struct{ gates, want []api.Gate }{
		{nil, nil},
		{[]api.Gate{gate(api.OpAnd, "z", "b", "a"), gate(api.OpCover, "y")}, []api.Gate{gate(api.OpAnd, "z", "b", "a"), gate(api.OpZero, "y")}},
		{[]api.Gate{covered("z", true, "")}, []api.Gate{gate(api.OpOne, "z")}},
		{[]api.Gate{covered("z", false, "a b")}, []api.Gate{gate(api.OpZero, "z")}},
		{[]api.Gate{covered("z", true, "a b")}, []api.Gate{gate(api.OpOne, "z")}},
		{[]api.Gate{covered("z", false, "a", "-")}, []api.Gate{gate(api.OpOne, "z")}},
		{[]api.Gate{covered("z", true, "a", "-")}, []api.Gate{gate(api.OpZero, "z")}},
		{[]api.Gate{covered("z", false, "a b", "-1")}, []api.Gate{gate(api.OpBuf, "z", "b")}},
		{[]api.Gate{covered("z", true, "a b", "-1")}, []api.Gate{gate(api.OpNot, "z", "b")}},
		{[]api.Gate{covered("z", false, "a b", "-0")}, []api.Gate{gate(api.OpNot, "z", "b")}},
		{[]api.Gate{covered("z", true, "a b", "-0")}, []api.Gate{gate(api.OpBuf, "z", "b")}},
		{[]api.Gate{covered("z", false, "a b", "10")}, []api.Gate{gate(api.OpNot, "n1", "b"), gate(api.OpAnd, "z", "a", "n1")}},
		{[]api.Gate{covered("z", true, "a b", "10")}, []api.Gate{gate(api.OpNot, "n1", "b"), gate(api.OpNand, "z", "a", "n1")}},
		{[]api.Gate{covered("z", true, "a b", "1-", "-1")}, []api.Gate{gate(api.OpNor, "z", "a", "b")}},
		{ // a net is turned once in all the netlist, and names that are there are left out
			[]api.Gate{covered("z", false, "a b", "10", "01"), gate(api.OpNot, "n2", "b"), covered("y", false, "c a b", "100")},
			[]api.Gate{
				gate(api.OpNot, "n1", "b"), gate(api.OpAnd, "n3", "a", "n1"), gate(api.OpNot, "n4", "a"), gate(api.OpAnd, "n5", "n4", "b"), gate(api.OpOr, "z", "n3", "n5"),
				gate(api.OpNot, "n2", "b"), gate(api.OpAnd, "y", "c", "n4", "n1"),
			},
		},
		{
			[]api.Gate{covered("z", false, "a b c", "11-", "1-1")},
			[]api.Gate{gate(api.OpOr, "n1", "b", "c"), gate(api.OpAnd, "z", "a", "n1")},
		},
	} {
		c := api.Circuit{Inputs: []string{"a", "b", "c"}, Outputs: []string{"a"}, Latches: []api.Latch{{Name: "q", Next: "a", Init: 2}}, Gates: x.gates}
		want := c
		want.Gates = x.want
		got, e := bench.Expand(c)
		if !net.Same(got, want) || e != api.OK {
			t.Errorf("%d: %v %v", i, got.Gates, e)
		}
	}
}

// nine is a cover of rows that no two have a literal of: an or of nine kids and more.
func nine(name string, off bool) api.Gate {
	rows := []string{"1-------", "-1------", "--1-----", "---1----", "----1---", "-----1--", "------1-", "-------1", "0-------", "-0------"}
	return covered(name, off, "a b c d e f g h", rows...)
}

func TestExpandOfManyKids(t *testing.T) {
	ins := strings.Fields("a b c d e f g h")
	c := api.Circuit{Inputs: append(slices.Clone(ins), "i"), Gates: []api.Gate{nine("z", true)}}
	want := []api.Gate{gate(api.OpNot, "n1", "a"), gate(api.OpNot, "n2", "b"), gate(api.OpOr, "n3", ins...), gate(api.OpNor, "z", "n3", "n1", "n2")}
	got, e := bench.Expand(c)
	if !net.Same(got, api.Circuit{Inputs: c.Inputs, Gates: want}) || e != api.OK {
		t.Error(got, e)
	}
	c.Gates[0].Rows = c.Gates[0].Rows[:8]
	got, e = bench.Expand(c)
	if !net.Same(got, api.Circuit{Inputs: c.Inputs, Gates: []api.Gate{gate(api.OpNor, "z", ins...)}}) || e != api.OK {
		t.Error(got, e)
	}
	// The same ones as a kid: then what is left has a name of its own, too.
	g := nine("z", false)
	g.Rows = g.Rows[:8]
	for i, row := range g.Rows {
		g.Rows[i] = strings.Replace(row, "1", "0", 1)
	}
	sixteen := append(nine("", false).Rows[:8], g.Rows...)
	c.Gates = []api.Gate{covered("z", false, "a b c d e f g h", sixteen...)}
	got, e = bench.Expand(c)
	last := got.Gates[len(got.Gates)-1]
	if e != api.OK || len(got.Gates) != 8+1+1+1 || last.Op != api.OpOr || !slices.Equal(last.Ins, []string{"n10", "n8"}) {
		t.Error(got.Gates, e)
	}
	c.Gates = []api.Gate{covered("z", false, "i a b c d e f g", "11------", "1-1-----", "1--1----", "1---1---", "1----1--", "1-----1-", "1------1", "10------", "1-0-----")}
	got, e = bench.Expand(c)
	want = []api.Gate{
		gate(api.OpNot, "n1", "a"), gate(api.OpNot, "n2", "b"), gate(api.OpOr, "n3", "a", "b", "c", "d", "e", "f", "g", "n1"),
		gate(api.OpOr, "n4", "n3", "n2"), gate(api.OpAnd, "z", "i", "n4"),
	}
	if !net.Same(got, api.Circuit{Inputs: c.Inputs, Gates: want}) || e != api.OK {
		t.Error(got.Gates, e)
	}
}

func TestExpandWrong(t *testing.T) {
	for _, c := range []api.Circuit{{Outputs: []string{"z"}}, {Gates: []api.Gate{gate(api.OpNot, "z", "z")}}, {Inputs: make([]string, 201)}} {
		if x, e := bench.Expand(c); !net.Same(x, api.Circuit{}) || e != api.ErrArg {
			t.Error(x, e)
		}
		if s, e := bench.Print(c); s != "" || e != api.ErrArg {
			t.Error(s, e)
		}
	}
	full := api.Circuit{Inputs: []string{"a", "b"}}
	for i := range 196 {
		full.Inputs = append(full.Inputs, "i"+strconv.Itoa(i))
	}
	full.Gates = []api.Gate{covered("z", false, "a b", "10")}
	if x, e := bench.Expand(full); e != api.OK || len(net.Nets(x)) != 200 {
		t.Error(e)
	}
	full.Inputs = append(full.Inputs, "more")
	if x, e := bench.Expand(full); !net.Same(x, api.Circuit{}) || e != api.ErrLimit {
		t.Error(e)
	}
	if s, e := bench.Print(full); s != "" || e != api.ErrLimit {
		t.Error(s, e)
	}
	full.Inputs, full.Latches = full.Inputs[:150], make([]api.Latch, 49)
	for i := range full.Latches {
		full.Latches[i] = api.Latch{Name: "q" + strconv.Itoa(i), Next: "a"}
	}
	if _, e := bench.Expand(full); e != api.ErrLimit {
		t.Error(e)
	}
	full.Latches = full.Latches[1:]
	if _, e := bench.Expand(full); e != api.OK {
		t.Error(e)
	}
	full.Gates = []api.Gate{gate(api.OpBuf, "z", "a")}
	if _, e := bench.Expand(full); e != api.OK {
		t.Error(e)
	}
}

func TestExpandSharesNothing(t *testing.T) {
	c := api.Circuit{Inputs: []string{"a", "b"}, Outputs: []string{"z"}, Latches: []api.Latch{{Name: "q", Next: "a"}}, Gates: []api.Gate{gate(api.OpAnd, "z", "a", "b")}}
	x, _ := bench.Expand(c)
	x.Inputs[0], x.Outputs[0], x.Latches[0].Next, x.Gates[0].Ins[0] = "x", "x", "x", "x"
	if c.Inputs[0] != "a" || c.Outputs[0] != "z" || c.Latches[0].Next != "a" || c.Gates[0].Ins[0] != "a" {
		t.Error(c)
	}
}

func TestParse(t *testing.T) {
	for s, want := range map[string]api.Circuit{
		"":                   {},
		"# nothing":          {},
		"INPUT(a) OUTPUT(a)": {Inputs: []string{"a"}, Outputs: []string{"a"}},
		"z = AND(a, b)\nINPUT(a)\nINPUT(b)\nOUTPUT(z)": {
			Inputs: []string{"a", "b"}, Outputs: []string{"z"}, Gates: []api.Gate{gate(api.OpAnd, "z", "a", "b")},
		},
		"INPUT = VDD()\nOUTPUT = NOT(INPUT)\nOUTPUT(OUTPUT)": {
			Outputs: []string{"OUTPUT"}, Gates: []api.Gate{gate(api.OpOne, "INPUT"), gate(api.OpNot, "OUTPUT", "INPUT")},
		},
		"INPUT(x__28)\np=DFF(x__28)q=DFF1(p)r=DFFX\n(\nq)": {
			Inputs: []string{"("}, Latches: []api.Latch{{Name: "p", Next: "("}, {Name: "q", Next: "p", Init: 1}, {Name: "r", Next: "q", Init: 2}},
		},
		"INPUT(a)c=GND()d=VDD()e=BUFF(a)f=BUF(a)g=NOT(a)h=AND(a)i=NAND(a)j=OR(a)k=NOR(a)l=XOR(a)m=XNOR(a)n=OR(a,a)o=NAND(a,a)p=NOR(a,a)q=XOR(a,a)r=XNOR(a,a,a,a,a,a,a,a)": {
			Inputs: []string{"a"},
			Gates: []api.Gate{
				gate(api.OpZero, "c"), gate(api.OpOne, "d"), gate(api.OpBuf, "e", "a"), gate(api.OpBuf, "f", "a"), gate(api.OpNot, "g", "a"), gate(api.OpBuf, "h", "a"),
				gate(api.OpNot, "i", "a"), gate(api.OpBuf, "j", "a"), gate(api.OpNot, "k", "a"), gate(api.OpBuf, "l", "a"), gate(api.OpNot, "m", "a"),
				gate(api.OpOr, "n", "a", "a"), gate(api.OpNand, "o", "a", "a"), gate(api.OpNor, "p", "a", "a"), gate(api.OpXor, "q", "a", "a"),
				gate(api.OpXnor, "r", "a", "a", "a", "a", "a", "a", "a", "a"),
			},
		},
	} {
		c, f := bench.Parse(s)
		if !net.Same(c, want) || f != (api.Fail{}) {
			t.Errorf("%q: %v %v", s, c, f)
		}
	}
}

// A mark @ stands where what is wrong stands.
func TestParseWrong(t *testing.T) {
	long := strings.Repeat("a", 41)
	for marked, e := range map[string]api.Errno{
		"INPUT(a) = @\x01":                     api.ErrSyntax,
		"( @\xff":                              api.ErrSyntax,
		"@(":                                   api.ErrSyntax,
		"INPUT@":                               api.ErrSyntax,
		"a@":                                   api.ErrSyntax,
		"INPUT @,":                             api.ErrSyntax,
		"INPUT @a":                             api.ErrSyntax,
		"a @(b)":                               api.ErrSyntax,
		"input@(b)":                            api.ErrSyntax,
		long + "@(b)":                          api.ErrSyntax,
		"INPUT(@":                              api.ErrSyntax,
		"INPUT(@)":                             api.ErrSyntax,
		"INPUT(@" + long + ")":                 api.ErrName,
		"INPUT(a@":                             api.ErrSyntax,
		"INPUT(a@,b)":                          api.ErrSyntax,
		"INPUT(a@=b)":                          api.ErrSyntax,
		"OUTPUT(a @b)":                         api.ErrSyntax,
		"INPUT(a)@)":                           api.ErrSyntax,
		"@" + long + " = X":                    api.ErrName,
		"a =@":                                 api.ErrSyntax,
		"a = @(":                               api.ErrSyntax,
		"a = @=":                               api.ErrSyntax,
		"a = @and(":                            api.ErrForm,
		"INPUT=@OUTPUT()":                      api.ErrForm,
		"a = @DFF0(b)":                         api.ErrForm,
		"a = AND@":                             api.ErrSyntax,
		"a = AND @a":                           api.ErrSyntax,
		"a = AND @=":                           api.ErrSyntax,
		"a = AND(@":                            api.ErrSyntax,
		"a = AND(@,":                           api.ErrSyntax,
		"a = AND(@" + long + " b":              api.ErrName,
		"a = AND(b @c)":                        api.ErrSyntax,
		"a = AND(b @=)":                        api.ErrSyntax,
		"a = AND(b, @)":                        api.ErrSyntax,
		"a = AND(b@":                           api.ErrSyntax,
		"a = @DFF()":                           api.ErrArg,
		"a = @DFFX(b, c)":                      api.ErrArg,
		"a = DFF1(b, c@":                       api.ErrSyntax,
		"a = DFF1(b, @" + long + ")":           api.ErrName,
		"INPUT(@a) INPUT(a)":                   api.ErrTwice,
		"@a = GND(b) INPUT(b)":                 api.ErrArg,
		"@a = AND()":                           api.ErrArg,
		"@a = NOT(b, b) INPUT(b)":              api.ErrArg,
		"OUTPUT(@x__28)":                       api.ErrNone,
		"q = DFF(@a)":                          api.ErrNone,
		"@a = NOT(b) b = NOT(a)":               api.ErrLoop,
		"@INPUT(a) b = AND(a,a,a,a,a,a,a,a,a)": api.ErrLimit,
		"@" + strings.Repeat("INPUT(a)", 201):  api.ErrLimit,
	} {
		at := strings.IndexByte(marked, '@')
		s := marked[:at] + marked[at+1:]
		if c, f := bench.Parse(s); !net.Same(c, api.Circuit{}) || f != spot.Fail(s, at, e) {
			t.Errorf("%q: %v, want %v", s, f, spot.Fail(s, at, e))
		}
	}
}

func TestPrint(t *testing.T) {
	c := api.Circuit{
		Inputs: []string{"a", "x__"}, Outputs: []string{"z", "x__"},
		Latches: []api.Latch{{Name: "(", Next: "a"}, {Name: "q", Next: "(", Init: 1}, {Name: "r", Next: "q", Init: 2}},
		Gates: []api.Gate{
			gate(api.OpZero, "b"), gate(api.OpOne, "c"), gate(api.OpBuf, "d", "("), gate(api.OpNot, "e", "a"), gate(api.OpAnd, "f", "a", "b"), gate(api.OpNand, "g", "a", "b"),
			gate(api.OpOr, "h", "a", "b", "a"), gate(api.OpNor, "i", "a", "b"), gate(api.OpXor, "j", "a", "b"), gate(api.OpXnor, "k", "a", "b"), covered("z", false, "a b", "10"),
		},
	}
	want := `INPUT(a)
INPUT(x__785f5f)
OUTPUT(z)
OUTPUT(x__785f5f)
x__28 = DFF(a)
q = DFF1(x__28)
r = DFFX(q)
b = GND()
c = VDD()
d = BUFF(x__28)
e = NOT(a)
f = AND(a, b)
g = NAND(a, b)
h = OR(a, b, a)
i = NOR(a, b)
j = XOR(a, b)
k = XNOR(a, b)
n1 = NOT(b)
z = AND(a, n1)
`
	if s, e := bench.Print(c); s != want || e != api.OK {
		t.Errorf("%s %v", s, e)
	}
	if s, e := bench.Print(api.Circuit{}); s != "" || e != api.OK {
		t.Error(s, e)
	}
}

func TestExpandedAndParsedAgain(t *testing.T) {
	r := rand.New(rand.NewSource(9))
	size := sample.Size{Inputs: [2]int{1, 3}, Latches: [2]int{0, 2}, Gates: [2]int{0, 9}, Outputs: [2]int{0, 9}, Width: [2]int{2, 8}}
	for range 500 {
		c := sample.Circuit(r.Intn, size, "a", "n", "x__", "(", "\\")
		x, e := bench.Expand(c)
		if err, name := order.Check(x); e != api.OK || err != api.OK {
			t.Fatal(c, e, err, name)
		}
		if slices.ContainsFunc(x.Gates, func(g api.Gate) bool { return g.Op == api.OpCover }) {
			t.Fatal(x)
		}
		for i := range 1 << (len(c.Inputs) + len(c.Latches)) {
			ins, state := sample.Bits(i, len(c.Inputs)), sample.Bits(i>>len(c.Inputs), len(c.Latches))
			a, m, _ := step.Step(c, state, ins)
			b, n, _ := step.Step(x, state, ins)
			if !slices.Equal(a, b) || !slices.Equal(m, n) {
				t.Fatal(c, x, state, ins)
			}
		}
		s, e := bench.Print(c)
		back, f := bench.Parse(s)
		if e != api.OK || f != (api.Fail{}) || !net.Same(back, x) {
			t.Fatal(c, s, back, f)
		}
		if again, _ := bench.Print(back); again != s {
			t.Fatal(s, again)
		}
	}
}

func FuzzParse(f *testing.F) {
	f.Add("INPUT(a) OUTPUT(z) z = XNOR(a,q)q=DFFX(z) # x")
	f.Fuzz(func(t *testing.T, s string) {
		c, fail := bench.Parse(s)
		if fail.Err != api.OK {
			if !net.Same(c, api.Circuit{}) {
				t.Error(c, fail)
			}
			return
		}
		printed, e := bench.Print(c)
		if back, _ := bench.Parse(printed); e != api.OK || !net.Same(back, c) {
			t.Error(printed)
		}
	})
}
