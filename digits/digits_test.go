package digits_test

import (
	"math"
	"strconv"
	"strings"
	"testing"

	"patchbay/api"
	"patchbay/digits"
)

func numbers() []int {
	l := []int{0, 1, 9, 10, 127, 128, 300, 16383, 16384, 2097151, 2097152, 268435455, 268435456, 1<<31 - 2, 1<<31 - 1}
	for n := 3; n < 1<<31; n = 2*n + n%7 {
		l = append(l, n)
	}
	return l
}

func TestPut(t *testing.T) {
	for _, n := range numbers() {
		if s, e := digits.Put(n); s != strconv.Itoa(n) || e != api.OK {
			t.Error(n, s, e)
		}
	}
}

func TestNoNumber(t *testing.T) {
	for _, n := range []int{-1, 1 << 31, math.MaxInt, math.MinInt} {
		if s, e := digits.Put(n); s != "" || e != api.ErrNumber {
			t.Error("Put", n, s, e)
		}
		if s, e := digits.Delta(n); s != "" || e != api.ErrNumber {
			t.Error("Delta", n, s, e)
		}
	}
}

func TestWhatIsPutIsGot(t *testing.T) {
	for _, n := range numbers() {
		s, _ := digits.Put(n)
		if m, end, e := digits.Get("1x"+s+"x1", 2); m != n || end != 2+len(s) || e != api.OK {
			t.Error("Get", n, m, end, e)
		}
		d, _ := digits.Delta(n)
		if m, end, e := digits.Undelta("\x80\x01"+d+"\x02", 2); m != n || end != 2+len(d) || e != api.OK {
			t.Error("Undelta", n, m, end, e)
		}
	}
}

func TestGetOfNone(t *testing.T) {
	for _, x := range []struct {
		s  string
		at int
	}{
		{"", 0}, {"a", 0}, {"12", 2}, {"12", 3}, {"12", -1}, {"12", math.MaxInt}, {"12", math.MinInt}, {"-1", 0}, {"+1", 0}, {" 1", 0},
		{"00", 0}, {"01", 0}, {"0123", 0}, {"2147483648", 0}, {"9999999999", 0}, {"99999999999999999999999", 0}, {strings.Repeat("1", 5000), 0},
	} {
		if n, end, e := digits.Get(x.s, x.at); n != 0 || end != x.at || e != api.ErrNumber {
			t.Error(x.s, x.at, n, end, e)
		}
	}
	if n, end, e := digits.Get("0a", 0); n != 0 || end != 1 || e != api.OK {
		t.Error(n, end, e)
	}
}

func TestDelta(t *testing.T) {
	for n, want := range map[int]string{0: "\x00", 1: "\x01", 127: "\x7f", 128: "\x80\x01", 300: "\xac\x02", 1<<31 - 1: "\xff\xff\xff\xff\x07"} {
		if s, e := digits.Delta(n); s != want || e != api.OK {
			t.Errorf("%d: %q %v", n, s, e)
		}
	}
}

func TestUndeltaOfShort(t *testing.T) {
	for _, x := range []struct {
		s  string
		at int
	}{
		{"", 0}, {"\x80", 0}, {"\x01\xff\xff", 1}, {"\x01", 1}, {"\x01", 2}, {"\x01", -1}, {"\x01", math.MaxInt}, {"\x01", math.MinInt},
		{strings.Repeat("\x80", 5000), 0},
	} {
		if n, end, e := digits.Undelta(x.s, x.at); n != 0 || end != x.at || e != api.ErrShort {
			t.Errorf("%q %d: %d %d %v", x.s, x.at, n, end, e)
		}
	}
}

func TestUndeltaOfNoNumber(t *testing.T) {
	for _, s := range []string{
		"\x80\x00", "\xff\x80\x00", "\x80\x80\x80\x80\x00", "\xff\xff\xff\xff\x08", "\x80\x80\x80\x80\x08", "\xff\xff\xff\xff\x7f",
		"\xff\xff\xff\xff\xff\x01", strings.Repeat("\x80", 500) + "\x01",
	} {
		if n, end, e := digits.Undelta("\x05"+s, 1); n != 0 || end != 1 || e != api.ErrNumber {
			t.Errorf("%q: %d %d %v", s, n, end, e)
		}
	}
}

// Each text of up to two bytes, and some of three, is a Delta of one number, or of none.
func TestNothingElseIsGot(t *testing.T) {
	for i := range 1 << 17 {
		s := string([]byte{byte(i), byte(i >> 8), byte(i >> 16)})
		n, end, e := digits.Undelta(s, 0)
		if e != api.OK {
			continue
		}
		if d, _ := digits.Delta(n); d != s[:end] {
			t.Fatalf("%q is read as %d, which is %q", s[:end], n, d)
		}
	}
}

func TestDigit(t *testing.T) {
	for c := range 256 {
		if digits.Digit(byte(c)) != strings.Contains("0123456789", string([]byte{byte(c)})) {
			t.Error(c)
		}
	}
}
