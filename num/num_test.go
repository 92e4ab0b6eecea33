package num_test

import (
	"math"
	"testing"

	"sibyl/api"
	"sibyl/num"
)

const (
	least = math.MinInt64
	most  = math.MaxInt64
)

// P1.1
func TestReckoned(t *testing.T) {
	for _, c := range []struct {
		op         int
		a, b, want int64
		ok         bool
	}{
		{api.Add, 2, 3, 5, true},
		{api.Add, -2, -3, -5, true},
		{api.Add, most, 1, least, true},
		{api.Add, least, -1, most, true},
		{api.Sub, 2, 3, -1, true},
		{api.Sub, 7, 0, 7, true},
		{api.Sub, least, 1, most, true},
		{api.Sub, 0, least, least, true},
		{api.Sub, -1, least, most, true},
		{api.Mul, -4, 3, -12, true},
		{api.Mul, most, 2, -2, true},
		{api.Mul, least, -1, least, true},
		{api.Div, 7, 2, 3, true},
		{api.Div, -7, 2, -3, true},
		{api.Div, 7, -2, -3, true},
		{api.Div, -7, -2, 3, true},
		{api.Div, 0, 5, 0, true},
		{api.Div, least, -1, least, true},
		{api.Div, least, 1, least, true},
		{api.Div, 1, 0, 0, false},
		{api.Div, 0, 0, 0, false},
		{api.Rem, 7, 2, 1, true},
		{api.Rem, -7, 2, -1, true},
		{api.Rem, 7, -2, 1, true},
		{api.Rem, -7, -2, -1, true},
		{api.Rem, 6, 3, 0, true},
		{api.Rem, least, -1, 0, true},
		{api.Rem, 7, 0, 0, false},
		{0, 7, 1, 0, false},
		{api.Num, 7, 1, 0, false},
		{api.Neg, 7, 1, 0, false},
		{-1, 7, 1, 0, false},
		{most, 7, 1, 0, false},
	} {
		if got, ok := num.Do(c.op, c.a, c.b); got != c.want || ok != c.ok {
			t.Errorf("Do(%d, %d, %d): %d, %v, want %d, %v", c.op, c.a, c.b, got, ok, c.want, c.ok)
		}
	}
}

// P1.2
func TestHeld(t *testing.T) {
	pairs := [][2]int64{{1, 2}, {2, 2}, {3, 2}, {least, most}, {most, least}, {least, least}, {-1, 0}}
	for _, p := range pairs {
		a, b := p[0], p[1]
		want := map[int]bool{
			api.Eq: a == b, api.Ne: a != b, api.Lt: a < b, api.Le: a <= b, api.Gt: a > b, api.Ge: a >= b,
			0: false, 7: false, -1: false, most: false, least: false,
		}
		for op, w := range want {
			if got := num.Test(op, a, b); got != w {
				t.Errorf("Test(%d, %d, %d): %v, want %v", op, a, b, got, w)
			}
		}
	}
}

// P1.3
func TestKept(t *testing.T) {
	for _, c := range [][4]int{
		{0, 1, 3, 1}, {1, 1, 3, 1}, {2, 1, 3, 2}, {3, 1, 3, 3}, {4, 1, 3, 3},
		{5, 5, 5, 5}, {-9, -3, -1, -3},
		// low is looked at first, where it is above high
		{2, 5, 1, 5}, {7, 5, 1, 1}, {5, 5, 1, 1},
	} {
		if got := num.Clamp(c[0], c[1], c[2]); got != c[3] {
			t.Errorf("Clamp(%d, %d, %d): %d, want %d", c[0], c[1], c[2], got, c[3])
		}
	}
	if got := num.Clamp("a", "b", "c"); got != "b" {
		t.Errorf("Clamp of texts: %q", got)
	}
	if got := num.Clamp(2.5, 0.5, 1.5); got != 1.5 {
		t.Errorf("Clamp of floats: %v", got)
	}
	if got := num.Clamp(uint8(7), 1, 200); got != 7 {
		t.Errorf("Clamp of bytes: %v", got)
	}
}
