package spot_test

import (
	"math"
	"slices"
	"strings"
	"testing"

	"patchbay/api"
	"patchbay/spot"
)

func TestPlaceOfEachByte(t *testing.T) {
	s := "ab\nc"
	want := [][2]int{{1, 1}, {1, 2}, {1, 3}, {2, 1}, {2, 2}}
	for at, w := range want {
		if line, col := spot.Place(s, at); [2]int{line, col} != w {
			t.Errorf("Place(%d) = %d, %d, want %v", at, line, col, w)
		}
	}
}

func TestPlaceCountsOnlyByte10(t *testing.T) {
	if line, col := spot.Place("a\r\xff\u2028b", 6); line != 1 || col != 7 {
		t.Error(line, col)
	}
}

func TestPlaceOutside(t *testing.T) {
	for _, at := range []int{-1, math.MinInt} {
		if line, col := spot.Place("\n\n", at); line != 1 || col != 1 {
			t.Error(at, line, col)
		}
	}
	for _, at := range []int{4, math.MaxInt} {
		if line, col := spot.Place("\nab", at); line != 2 || col != 3 {
			t.Error(at, line, col)
		}
	}
	if line, col := spot.Place("", 7); line != 1 || col != 1 {
		t.Error(line, col)
	}
}

func TestAtIsPlaceTurned(t *testing.T) {
	for _, s := range []string{"", "a", "\n", "a\nbb\n\nc", "x\n"} {
		for at := range len(s) + 1 {
			line, col := spot.Place(s, at)
			if back, ok := spot.At(s, line, col); back != at || !ok {
				t.Errorf("%q: place %d came back as %d, %v", s, at, back, ok)
			}
		}
	}
}

func TestAtOfNoPlace(t *testing.T) {
	for _, x := range [][2]int{{0, 0}, {1, 0}, {0, 1}, {1, 4}, {2, 3}, {3, 1}, {-1, 1}, {math.MaxInt, 1}, {1, math.MaxInt}, {1, math.MinInt}} {
		if at, ok := spot.At("ab\nc", x[0], x[1]); at != 0 || ok {
			t.Error(x, at, ok)
		}
	}
}

func TestLinesAreOneMoreThanEnds(t *testing.T) {
	for _, s := range []string{"", "a", "\n", "\n\n", "a\nb", "a\r\nb\n"} {
		if l := spot.Lines(s); !slices.Equal(l, strings.Split(s, "\n")) {
			t.Errorf("%q: %q", s, l)
		}
	}
}

func TestFail(t *testing.T) {
	if f := spot.Fail("a\nb", 2, api.ErrName); f != (api.Fail{Err: api.ErrName, Line: 2, Col: 1}) {
		t.Error(f)
	}
	if f := spot.Fail("a\nb", 2, api.OK); f != (api.Fail{}) {
		t.Error(f)
	}
	if f := spot.Fail("a", -3, api.ErrLoop); f != (api.Fail{Err: api.ErrLoop, Line: 1, Col: 1}) {
		t.Error(f)
	}
}

func TestMove(t *testing.T) {
	for _, x := range []struct {
		line, col int
		s         string
		want      [2]int
	}{
		{3, 5, "", [2]int{3, 5}},
		{3, 5, "ab", [2]int{3, 7}},
		{3, 5, "\n", [2]int{4, 1}},
		{3, 5, "a\nb\ncd", [2]int{5, 3}},
		{-3, -5, "a", [2]int{-3, -4}},
		{-3, -5, "a\n", [2]int{-2, 1}},
	} {
		if line, col := spot.Move(x.line, x.col, x.s); [2]int{line, col} != x.want {
			t.Errorf("Move(%d, %d, %q) = %d, %d", x.line, x.col, x.s, line, col)
		}
	}
}

func TestMoveIsPlace(t *testing.T) {
	s := "a\nbc\n\nd"
	for i := range len(s) + 1 {
		for j := i; j <= len(s); j++ {
			line, col := spot.Place(s, i)
			line, col = spot.Move(line, col, s[i:j])
			if l, c := spot.Place(s, j); l != line || c != col {
				t.Error(i, j, line, col)
			}
		}
	}
}
