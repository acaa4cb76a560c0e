package trans_test

import (
	"math/rand"
	"slices"
	"strconv"
	"strings"
	"testing"

	"patchbay/aiger"
	"patchbay/api"
	"patchbay/bench"
	"patchbay/blif"
	"patchbay/lower"
	"patchbay/net"
	"patchbay/packed"
	"patchbay/raise"
	"patchbay/sample"
	"patchbay/step"
	"patchbay/trans"
	"patchbay/verilog"
)

var (
	all   = []api.Format{api.FmtAag, api.FmtAig, api.FmtBlif, api.FmtBench, api.FmtVerilog}
	none  = []api.Format{-1, 5, 1 << 40}
	limit = api.Limits{Bytes: api.MaxBytes, Nets: api.MaxNets}
)

// small is a netlist of a cover, of a net inside that has a name, and of a latch.
func small() api.Circuit {
	return api.Circuit{
		Inputs: []string{"a", "b(0)"}, Outputs: []string{"z", "a"},
		Latches: []api.Latch{{Name: "q", Next: "inner", Init: 2}},
		Gates: []api.Gate{
			{Name: "z", Op: api.OpNand, Ins: []string{"inner", "q"}},
			{Name: "inner", Op: api.OpCover, Ins: []string{"a", "b(0)"}, Rows: []string{"10"}},
		},
	}
}

// printed is small's text, by the format's own package.
func printed(t *testing.T, f api.Format) string {
	var s string
	var e api.Errno
	m, _, _ := lower.Lower(small())
	switch f {
	case api.FmtAag:
		s, e = aiger.Print(m)
	case api.FmtAig:
		s, e = packed.Print(m)
	case api.FmtBlif:
		s, e = blif.Print(small())
	case api.FmtBench:
		s, e = bench.Print(small())
	case api.FmtVerilog:
		s, e = verilog.Print(small())
	}
	if e != api.OK {
		t.Fatal(f, e)
	}
	return s
}

func TestLetters(t *testing.T) {
	for _, f := range append(slices.Clone(all), none...) {
		if trans.Letters(f) != (f == api.FmtBlif || f == api.FmtBench || f == api.FmtVerilog) {
			t.Error(f)
		}
	}
}

func TestNoFormat(t *testing.T) {
	want := api.Fail{Err: api.ErrForm}
	for _, f := range none {
		if m, fail := trans.Denote(f, ""); !lower.Same(m, api.Model{}) || fail != want {
			t.Error(f, m, fail)
		}
		if c, fail := trans.Read(f, ""); !net.Same(c, api.Circuit{}) || fail != want {
			t.Error(f, c, fail)
		}
		if s, e := trans.Write(f, api.Circuit{Outputs: []string{"z"}}); s != "" || e != api.ErrForm {
			t.Error(f, s, e)
		}
		if s, e := trans.Put(f, api.Model{Inputs: []string{""}}); s != "" || e != api.ErrForm {
			t.Error(f, s, e)
		}
		for _, g := range all {
			if s, fail := trans.Translate("?", f, g, api.Limits{}, false); s != "" || fail != want {
				t.Error(f, s, fail)
			}
			if s, fail := trans.Translate("?", g, f, api.Limits{}, true); s != "" || fail != want {
				t.Error(f, s, fail)
			}
		}
	}
}

func TestDenoteReadWritePut(t *testing.T) {
	m, _, _ := lower.Lower(small())
	raised, _ := raise.Raise(m)
	expanded, _ := bench.Expand(small())
	for _, f := range all {
		s := printed(t, f)
		want := raised
		switch f {
		case api.FmtBlif:
			want = small()
		case api.FmtBench, api.FmtVerilog:
			want = expanded
		}
		if got, fail := trans.Denote(f, s); !lower.Same(got, m) || fail != (api.Fail{}) {
			t.Error(f, got, fail)
		}
		if got, fail := trans.Read(f, s); !net.Same(got, want) || fail != (api.Fail{}) {
			t.Error(f, got, fail)
		}
		if got, e := trans.Write(f, small()); got != s || e != api.OK {
			t.Error(f, got, e)
		}
		put := s
		if trans.Letters(f) {
			put, _ = trans.Write(f, raised)
		}
		if got, e := trans.Put(f, m); got != put || e != api.OK {
			t.Error(f, got, e)
		}
	}
}

func TestDenoteIsNormal(t *testing.T) {
	m, f := trans.Denote(api.FmtAag, "aag 2 1 0 1 1\n2\n4\n4 2 2\n")
	if len(m.Graph.Ands) != 0 || m.Graph.Outs[0] != 2 || f != (api.Fail{}) {
		t.Error(m, f)
	}
}

func TestErrorsHavePlaces(t *testing.T) {
	wrong := map[api.Format]string{api.FmtAag: "aag\n", api.FmtAig: "aig 1 1 0 0 0\n?", api.FmtBlif: ".model\n.x", api.FmtBench: "z = X(", api.FmtVerilog: "module m();\n;"}
	for f, s := range wrong {
		var want api.Fail
		switch f {
		case api.FmtAag:
			_, want = aiger.Parse(s)
		case api.FmtAig:
			_, want = packed.Parse(s)
		case api.FmtBlif:
			_, want = blif.Parse(s)
		case api.FmtBench:
			_, want = bench.Parse(s)
		case api.FmtVerilog:
			_, want = verilog.Parse(s)
		}
		if want.Err == api.OK || want.Line == 0 {
			t.Fatal(f, want)
		}
		if m, fail := trans.Denote(f, s); !lower.Same(m, api.Model{}) || fail != want {
			t.Error(f, m, fail)
		}
		if c, fail := trans.Read(f, s); !net.Same(c, api.Circuit{}) || fail != want {
			t.Error(f, c, fail)
		}
		for _, g := range all {
			if u, fail := trans.Translate(s, f, g, limit, false); u != "" || fail != want {
				t.Error(f, g, u, fail)
			}
			if u, fail := trans.Translate(s, f, g, limit, true); u != "" || fail != want {
				t.Error(f, g, u, fail)
			}
		}
	}
}

// wide is a chain of exclusive ors: few gates, and many ands.
func wide(many int) api.Circuit {
	c := api.Circuit{Inputs: []string{"a", "b"}, Outputs: []string{"g0"}}
	last := "a"
	for i := range many {
		name := "g" + strconv.Itoa(many-1-i)
		c.Gates = append(c.Gates, api.Gate{Name: name, Op: api.OpXor, Ins: []string{last, "b", "a"}})
		last = name
	}
	return c
}

func TestErrorsWithoutPlaces(t *testing.T) {
	nowhere := api.Fail{Err: api.ErrLimit}
	c := wide(60)
	s, _ := trans.Write(api.FmtBench, c)
	m, _, _ := lower.Lower(c)
	inputs := api.Circuit{}
	for i := range 201 {
		inputs.Inputs = append(inputs.Inputs, "i"+strconv.Itoa(i))
	}
	for _, f := range all {
		if s, e := trans.Put(f, m); trans.Letters(f) && (s != "" || e != api.ErrLimit) || !trans.Letters(f) && e != api.OK {
			t.Error(f, s, e)
		}
		if s, e := trans.Put(f, api.Model{Inputs: []string{"a"}}); s != "" || e != api.ErrArg {
			t.Error(f, s, e)
		}
		want := api.ErrLimit
		if trans.Letters(f) {
			want = api.ErrArg
		}
		if s, e := trans.Write(f, inputs); s != "" || e != want {
			t.Error(f, s, e)
		}
		if u, fail := trans.Translate(s, api.FmtBench, f, api.Limits{Bytes: api.MaxBytes, Nets: 5000}, true); trans.Letters(f) && (u != "" || fail != nowhere) || !trans.Letters(f) && fail != (api.Fail{}) {
			t.Error(f, u, fail)
		}
	}
	letters, _ := trans.Put(api.FmtAag, m)
	if c, fail := trans.Read(api.FmtAag, letters); !net.Same(c, api.Circuit{}) || fail != nowhere {
		t.Error(fail)
	}
	loop := "a = NOT(b) b = NOT(a) INPUT(x)"
	if _, fail := trans.Denote(api.FmtBench, loop); fail.Err != api.ErrLoop || fail.Line != 1 {
		t.Error(fail)
	}
	big := wide(60)
	for i := range big.Gates {
		big.Gates[i].Ins = []string{big.Gates[i].Ins[0], "c", "d", "e", "f", "g", "h", "i"}
	}
	big.Inputs = append(big.Inputs, "c", "d", "e", "f", "g", "h", "i")
	more := big
	for i := range 131 {
		more.Gates = append(more.Gates, api.Gate{Name: "h" + strconv.Itoa(i), Op: api.OpXor, Ins: []string{"g" + strconv.Itoa(i%60), "h" + strconv.Itoa(max(i-1, 0)), "c", "d", "e", "f", "g", "i"}})
	}
	more.Gates[60].Ins[1] = "a"
	s, e := trans.Write(api.FmtBlif, more)
	if e != api.OK {
		t.Fatal(e)
	}
	if m, fail := trans.Denote(api.FmtBlif, s); !lower.Same(m, api.Model{}) || fail != nowhere {
		t.Error(fail)
	}
}

func TestNets(t *testing.T) {
	if n := trans.Nets(small()); n != 5 {
		t.Error(n)
	}
	if n := trans.Nets(api.Circuit{Outputs: []string{"a"}}); n != 0 {
		t.Error(n)
	}
}

func TestTranslate(t *testing.T) {
	for _, x := range []struct {
		s        string
		from, to api.Format
		graph    bool
		want     string
	}{
		{".model m\n.inputs a\n.outputs a\n.end", api.FmtBlif, api.FmtBench, false, "INPUT(a)\nOUTPUT(a)\n"},
		{"INPUT(a) OUTPUT(z) k = NOT(a) z = NOT(k)", api.FmtBench, api.FmtBench, false, "INPUT(a)\nOUTPUT(z)\nk = NOT(a)\nz = NOT(k)\n"},
		{"INPUT(a) OUTPUT(z) k = NOT(a) z = NOT(k)", api.FmtBench, api.FmtBench, true, "INPUT(a)\nOUTPUT(z)\nz = BUFF(a)\n"},
		{"INPUT(a) OUTPUT(z) k = NOT(a) z = NOT(k)", api.FmtBench, api.FmtAag, false, "aag 1 1 0 1 0\n2\n2\ni0 a\no0 z\n"},
		{"aag 1 1 0 1 0\n2\n3\n", api.FmtAag, api.FmtVerilog, false, "module top(i0, o0);\n  input i0;\n  output o0;\n  not (o0, i0);\nendmodule\n"},
		{"aag 1 1 0 1 0\n2\n3\n", api.FmtAag, api.FmtAig, false, "aig 1 1 0 1 0\n3\ni0 i0\no0 o0\n"},
	} {
		if s, f := trans.Translate(x.s, x.from, x.to, limit, x.graph); s != x.want || f != (api.Fail{}) {
			t.Errorf("%q: %q %v", x.s, s, f)
		}
	}
}

func TestTranslateLimits(t *testing.T) {
	s := "INPUT(a) OUTPUT(z) k = NOT(a) z = NOT(k)"
	nowhere := api.Fail{Err: api.ErrLimit}
	for i, x := range []struct {
		s        string
		from, to api.Format
		l        api.Limits
		graph    bool
		want     api.Fail
	}{
		{s, api.FmtBench, api.FmtBlif, api.Limits{Bytes: len(s), Nets: 3}, false, api.Fail{}},
		{s, api.FmtBench, api.FmtBlif, api.Limits{Bytes: len(s) - 1, Nets: 3}, false, nowhere},
		{s, api.FmtBench, api.FmtBlif, api.Limits{Bytes: len(s), Nets: 2}, false, nowhere},
		{s, api.FmtBench, api.FmtBlif, api.Limits{Bytes: len(s), Nets: 1}, true, api.Fail{}},
		{s, api.FmtBench, api.FmtBlif, api.Limits{Bytes: len(s), Nets: 0}, true, nowhere},
		{s, api.FmtBench, api.FmtAag, api.Limits{Bytes: len(s), Nets: 1}, false, api.Fail{}},
		{s, api.FmtBench, api.FmtAag, api.Limits{Bytes: len(s), Nets: 0}, false, nowhere},
		{"aag 5 2 1 0 2\n2\n4\n6 10\n8 6 2\n10 8 4\n", api.FmtAag, api.FmtAig, api.Limits{Bytes: 99, Nets: 5}, false, api.Fail{}},
		{"aag 5 2 1 0 2\n2\n4\n6 10\n8 6 2\n10 8 4\n", api.FmtAag, api.FmtAig, api.Limits{Bytes: 99, Nets: 4}, false, nowhere},
		{"", api.FmtBench, api.FmtBench, api.Limits{}, false, api.Fail{}},
		{"", api.FmtBench, api.FmtBench, api.Limits{Bytes: -1}, false, nowhere},
		{"", api.FmtBench, api.FmtBench, api.Limits{Nets: -1}, false, nowhere},
		{"?", api.FmtBench, api.FmtBench, api.Limits{}, false, nowhere},
		{"?", api.FmtBench, api.FmtBench, api.Limits{Bytes: 1, Nets: -1}, false, api.Fail{Err: api.ErrSyntax, Line: 1, Col: 2}},
	} {
		u, f := trans.Translate(x.s, x.from, x.to, x.l, x.graph)
		if f != x.want || f.Err != api.OK && u != "" {
			t.Error(i, u, f)
		}
	}
}

// sameMachine tells whether two netlists have the same names, in order, begin and do the same.
func sameMachine(t *testing.T, a, b api.Circuit) {
	if !slices.Equal(a.Inputs, b.Inputs) || !slices.Equal(a.Outputs, b.Outputs) || len(a.Latches) != len(b.Latches) {
		t.Fatal(a, b)
	}
	for i := range a.Latches {
		if a.Latches[i].Name != b.Latches[i].Name || a.Latches[i].Init != b.Latches[i].Init {
			t.Fatal(a, b)
		}
	}
	for i := range 1 << (len(a.Inputs) + len(a.Latches)) {
		ins, state := sample.Bits(i, len(a.Inputs)), sample.Bits(i>>len(a.Inputs), len(a.Latches))
		x, m, _ := step.Step(a, state, ins)
		y, n, _ := step.Step(b, state, ins)
		if !slices.Equal(x, y) || !slices.Equal(m, n) {
			t.Fatal(a, b, state, ins)
		}
	}
}

func TestThereAndBack(t *testing.T) {
	r := rand.New(rand.NewSource(11))
	size := sample.Size{Inputs: [2]int{1, 3}, Latches: [2]int{0, 2}, Gates: [2]int{0, 7}, Outputs: [2]int{0, 9}, Width: [2]int{2, 5}}
	for range 60 {
		c := sample.Circuit(r.Intn, size, "a", "n", "x__", "(", "\\", ".", "i")
		for _, from := range all {
			s, e := trans.Write(from, c)
			if e != api.OK {
				t.Fatal(c, e)
			}
			was, f := trans.Read(from, s)
			if f != (api.Fail{}) {
				t.Fatal(s, f)
			}
			sameMachine(t, c, was)
			for _, to := range all {
				for _, graph := range []bool{false, true} {
					thereAndBack(t, s, was, from, to, graph)
				}
			}
		}
	}
}

func thereAndBack(t *testing.T, s string, was api.Circuit, from, to api.Format, graph bool) {
	there, f := trans.Translate(s, from, to, limit, graph)
	if f != (api.Fail{}) {
		t.Fatal(s, f)
	}
	back, f := trans.Translate(there, to, from, limit, graph)
	if f != (api.Fail{}) {
		t.Fatal(there, f)
	}
	c, f := trans.Read(from, back)
	if f != (api.Fail{}) {
		t.Fatal(back, f)
	}
	sameMachine(t, was, c)
	if again, f := trans.Translate(back, from, to, limit, graph); again != there || f != (api.Fail{}) {
		t.Fatalf("%v %v %v: %q\n%q %v", from, to, graph, there, again, f)
	}
	if trans.Letters(from) && trans.Letters(to) && !graph {
		for _, l := range net.Nets(was) {
			if net.Place(c, l) < 0 {
				t.Fatal("a name is lost:", l, there)
			}
		}
	}
}

func FuzzTranslate(f *testing.F) {
	for i, s := range []string{"aag 1 1 0 1 0\n2\n3\n", "aig 2 1 0 1 1\n4\n\x02\x00", ".model m\n.inputs a\n.outputs a\n.end", "INPUT(a)", "module m();endmodule"} {
		f.Add(s, i, i, false)
	}
	f.Fuzz(func(t *testing.T, s string, from, to int, graph bool) {
		u, fail := trans.Translate(s, api.Format(from), api.Format(to), limit, graph)
		if fail != (api.Fail{}) && (u != "" || fail.Err == api.OK) {
			t.Error(u, fail)
		}
		if fail == (api.Fail{}) {
			if _, f := trans.Denote(api.Format(to), u); f != (api.Fail{}) {
				t.Error(strings.ToValidUTF8(u, "?"), f)
			}
		}
	})
}
