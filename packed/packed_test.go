package packed_test

import (
	"math"
	"math/rand"
	"slices"
	"strings"
	"testing"

	"patchbay/aig"
	"patchbay/aiger"
	"patchbay/api"
	"patchbay/lower"
	"patchbay/packed"
	"patchbay/raise"
	"patchbay/sample"
	"patchbay/spot"
)

func TestAnds(t *testing.T) {
	for i, x := range []struct {
		g    api.Graph
		want string
		e    api.Errno
	}{
		{api.Graph{}, "", api.OK},
		{api.Graph{Ins: 2, Ands: [][2]int{{2, 4}}, Outs: []int{6}}, "\x02\x02", api.OK},
		{api.Graph{Ins: 2, Ands: [][2]int{{4, 2}, {2, 2}, {6, 5}}, Outs: []int{10}}, "\x02\x02\x02\x01", api.OK},
		{api.Graph{Ins: 200, Ands: [][2]int{{3, 4}}, Outs: []int{403}}, "\x8e\x03\x01", api.OK},
		{api.Graph{Ins: 2, Ands: [][2]int{{2, 4}}}, "", api.OK},
		{api.Graph{Ins: -1}, "", api.ErrLimit},
		{api.Graph{Ins: 1, Outs: []int{4}}, "", api.ErrArg},
	} {
		if s, e := packed.Ands(x.g); s != x.want || e != x.e {
			t.Errorf("%d: %q %v", i, s, e)
		}
	}
}

func TestUnands(t *testing.T) {
	for i, x := range []struct {
		s               string
		at, first, many int
		want            [][2]int
		end             int
	}{
		{"", 0, 1, 0, nil, 0},
		{"x", -5, 4001, 0, nil, -5},
		{"x", 99, 1, 0, nil, 99},
		{"\x02\x02", 0, 3, 1, [][2]int{{4, 2}}, 2},
		{"..\x02\x02\x02\x01!", 2, 3, 2, [][2]int{{4, 2}, {6, 5}}, 6},
		{"\x02\x00", 0, 1, 1, [][2]int{{0, 0}}, 2},
		{"\x01\x01", 0, 1, 1, [][2]int{{1, 0}}, 2},
		{"\x8e\x03\x01\x80", 0, 201, 1, [][2]int{{4, 3}}, 3},
	} {
		l, end, e := packed.Unands(x.s, x.at, x.first, x.many)
		if !slices.Equal(l, x.want) || end != x.end || e != api.OK {
			t.Error(i, l, end, e)
		}
	}
}

func TestUnandsWrong(t *testing.T) {
	for i, x := range []struct {
		s               string
		at, first, many int
		end             int
		e               api.Errno
	}{
		{"", 3, 0, 0, 3, api.ErrArg}, {"", 3, 4002, 0, 3, api.ErrArg}, {"", 3, 1, -1, 3, api.ErrArg}, {"", 3, 1, 4001, 3, api.ErrArg},
		{"", 3, math.MinInt, 1, 3, api.ErrArg}, {"", 3, math.MaxInt, 1, 3, api.ErrArg}, {"", 3, 1, math.MaxInt, 3, api.ErrArg},
		{"", 0, 1, 1, 0, api.ErrShort}, {"\x01", -1, 1, 1, -1, api.ErrShort}, {"\x01", 2, 1, 1, 2, api.ErrShort}, {"\x01", math.MaxInt, 1, 1, math.MaxInt, api.ErrShort},
		{"\x01\x80", 0, 1, 1, 1, api.ErrShort}, {"\x01\x01\x01", 0, 1, 2, 3, api.ErrShort}, {"\x01\x01\x80\x80", 0, 1, 2, 2, api.ErrShort},
		{"\x80\x00\x01", 0, 1, 1, 0, api.ErrNumber}, {"\x01\xff\x80\x00", 0, 1, 1, 1, api.ErrNumber},
		{"\x00\x00", 0, 1, 1, 0, api.ErrArg}, {"\x03\x00", 0, 1, 1, 0, api.ErrArg}, {"\x01\x02", 0, 1, 1, 1, api.ErrArg}, {"\x02\x01", 0, 1, 1, 1, api.ErrArg},
		{"\x02\x00\x05\x00", 0, 1, 2, 2, api.ErrArg}, {"\x03\x80", 0, 1, 1, 0, api.ErrArg},
	} {
		if l, end, e := packed.Unands(x.s, x.at, x.first, x.many); l != nil || end != x.end || e != x.e {
			t.Error(i, l, end, e)
		}
	}
}

func TestUnandsOfMany(t *testing.T) {
	s := strings.Repeat("\x01\x01", 4000)
	l, end, e := packed.Unands(s, 0, 4001, 4000)
	if len(l) != 4000 || l[3999] != [2]int{15999, 15998} || end != 8000 || e != api.OK {
		t.Error(len(l), end, e)
	}
}

func TestParse(t *testing.T) {
	for s, want := range map[string]api.Model{
		"aig 0 0 0 0 0\n":        {},
		"aig 0 0 0 1 0\n1\nc\n?": {Graph: api.Graph{Outs: []int{1}}, Outputs: []string{"o0"}},
		"aig 5 1 3 1 1 1 1\n11\n4 1\n10 8\n4\n10\n0\n\x02\x06l1 q\nc0 k\n": {
			Graph:  api.Graph{Ins: 1, Next: []int{11, 4, 10}, Init: []int{0, 1, 2}, Ands: [][2]int{{8, 2}}, Outs: []int{4, 10, 0}},
			Inputs: []string{"i0"}, Latches: []string{"l0", "q", "l2"}, Outputs: []string{"o0", "b0", "k"},
		},
		"aig 0 0 0 0 0 2 0\n0\n1\nb1 x\n": {Graph: api.Graph{Outs: []int{0, 1}}, Outputs: []string{"b0", "x"}},
		"aig 0 0 0 0 0 0 2\n0\n1\nc1 x\n": {Graph: api.Graph{Outs: []int{0, 1}}, Outputs: []string{"c0", "x"}},
		"aig 1 0 1 0 0\n3 0\n":            {Graph: api.Graph{Next: []int{3}, Init: []int{0}}, Latches: []string{"l0"}},
		"aig 11 10 0 1 1\n22\n\x0a\x0ai9 x\n": {
			Graph:  api.Graph{Ins: 10, Ands: [][2]int{{12, 2}}, Outs: []int{22}},
			Inputs: []string{"i0", "i1", "i2", "i3", "i4", "i5", "i6", "i7", "i8", "x"}, Outputs: []string{"o0"},
		},
	} {
		m, f := packed.Parse(s)
		if !lower.Same(m, want) || f != (api.Fail{}) {
			t.Errorf("%q: %v %v", s, m, f)
		}
	}
}

// A mark @ stands where what is wrong stands.
func TestParseWrong(t *testing.T) {
	for marked, e := range map[string]api.Errno{
		"@":                                api.ErrSyntax,
		"@aag 0 0 0 0 0\n":                 api.ErrSyntax,
		"aig 0 0 0@\n":                     api.ErrSyntax,
		"aig 0 0 0 0 @\n":                  api.ErrNumber,
		"@aig 1 0 0 0 0 0 0 1\n":           api.ErrForm,
		"@aig 4001 4001 0 0 0\n":           api.ErrLimit,
		"@aig 1 2 0 0 0\n":                 api.ErrLimit,
		"@aig 2 1 0 0 0\n?":                api.ErrArg,
		"aig 1 0 1 0 0\n@\n":               api.ErrNumber,
		"aig 1 0 1 0 0\n@":                 api.ErrNumber,
		"aig 1 0 1 0 0\n@4 1\n":            api.ErrArg,
		"aig 1 0 1 0 0\n3@":                api.ErrSyntax,
		"aig 1 0 1 0 0\n3 @\n":             api.ErrNumber,
		"aig 1 0 1 0 0\n3 @3\n":            api.ErrArg,
		"aig 1 0 1 0 0\n3 2@ \n":           api.ErrSyntax,
		"aig 0 0 0 1 0\n@2\n":              api.ErrArg,
		"aig 0 0 0 0 0 1\n@2\n":            api.ErrArg,
		"aig 0 0 0 0 0 0 1\n@2\n":          api.ErrArg,
		"aig 0 0 0 1 0\n@x\n":              api.ErrNumber,
		"aig 0 0 0 1 0\n1@ \n":             api.ErrSyntax,
		"aig 1 0 0 1 1\n2\n@":              api.ErrShort,
		"aig 1 0 0 1 1\n2\n\x01@\x80":      api.ErrShort,
		"aig 1 0 0 1 1\n2\n@\x80\x00":      api.ErrNumber,
		"aig 1 0 0 1 1\n2\n@\x00":          api.ErrArg,
		"aig 1 0 0 1 1\n2\n\x01@\x02":      api.ErrArg,
		"aig 1 0 0 1 1\n2\n\x01\x01@\n":    api.ErrSyntax,
		"aig 1 1 0 0 0\ni@1 x\n":           api.ErrArg,
		"aig 1 1 0 0 0\ni0 @a b\n":         api.ErrName,
		"aig 1 1 0 0 0\ni0 x@":             api.ErrSyntax,
		"@aig 1 1 0 1 0\n0\no0 i0\n":       api.ErrTwice,
		"@aig 1 1 0 2 0\n2\n2\no0 o1\nc\n": api.ErrTwice,
	} {
		at := strings.IndexByte(marked, '@')
		s := marked[:at] + marked[at+1:]
		if m, f := packed.Parse(s); !lower.Same(m, api.Model{}) || f != spot.Fail(s, at, e) {
			t.Errorf("%q: %v %v, want %v", s, m, f, spot.Fail(s, at, e))
		}
	}
}

func TestPrint(t *testing.T) {
	m := api.Model{
		Graph:   api.Graph{Ins: 2, Next: []int{11, 1, 4}, Init: []int{0, 1, 2}, Ands: [][2]int{{2, 4}, {12, 12}, {2, 2}}, Outs: []int{15, 13, 2}},
		Inputs:  []string{"a", "b"},
		Latches: []string{"p", "q", "r"},
		Outputs: []string{"y", "z", "a"},
	}
	want := "aig 6 2 3 3 1\n11\n1 1\n4 10\n13\n13\n2\n\x08\x02i0 a\ni1 b\nl0 p\nl1 q\nl2 r\no0 y\no1 z\no2 a\n"
	if s, e := packed.Print(m); s != want || e != api.OK {
		t.Errorf("%q %v", s, e)
	}
	for i, change := range []func(m *api.Model){
		func(m *api.Model) { m.Graph.Ins = 4001 },
		func(m *api.Model) { m.Graph.Outs[0] = 99 },
		func(m *api.Model) { m.Inputs = nil },
		func(m *api.Model) { m.Inputs[0] = "" },
		func(m *api.Model) { m.Outputs[0] = "z" },
	} {
		n, _ := raise.Normal(m)
		change(&n)
		if s, e := packed.Print(n); s != "" || e != lower.Check(n) || e == api.OK {
			t.Error(i, s, e)
		}
	}
}

func TestBothKindsAreOneAnothers(t *testing.T) {
	r := rand.New(rand.NewSource(7))
	size := sample.Size{Inputs: [2]int{0, 80}, Latches: [2]int{0, 3}, Gates: [2]int{0, 11}, Outputs: [2]int{0, 4}}
	for range 1000 {
		m := sample.Model(r.Intn, size, "in", "#", "l")
		n, _ := raise.Normal(m)
		s, e := packed.Print(m)
		back, f := packed.Parse(s)
		if e != api.OK || f != (api.Fail{}) || !lower.Same(back, n) {
			t.Fatal(m, s, back, f)
		}
		letters, _ := aiger.Print(m)
		if other, _ := aiger.Parse(letters); !lower.Same(other, back) {
			t.Fatal(other, back)
		}
		bytes, _ := packed.Ands(m.Graph)
		l, end, e := packed.Unands("?"+bytes, 1, 1+n.Graph.Ins+len(n.Graph.Next), len(n.Graph.Ands))
		if !slices.Equal(l, n.Graph.Ands) || end != 1+len(bytes) || e != api.OK {
			t.Fatal(n.Graph, l, end, e)
		}
	}
}

func FuzzParse(f *testing.F) {
	f.Add("aig 5 1 3 1 1 1 1\n11\n4 1\n10 8\n4\n10\n0\n\x02\x06l1 q\nc0 k\n")
	f.Fuzz(func(t *testing.T, s string) {
		m, fail := packed.Parse(s)
		if fail.Err != api.OK {
			if !lower.Same(m, api.Model{}) {
				t.Error(m, fail)
			}
			return
		}
		printed, _ := packed.Print(m)
		back, _ := packed.Parse(printed)
		if n, _ := raise.Normal(m); !lower.Same(n, back) || !aig.Strict(back.Graph) {
			t.Error(printed)
		}
	})
}
