package route_test

import (
	"math"
	"math/rand"
	"testing"

	"sibyl/route"
)

// mixed is the document's rule, step by step.
func mixed(x int) uint64 {
	z := uint64(x) + 0x9e3779b97f4a7c15
	z ^= z >> 30
	z *= 0xbf58476d1ce4e5b9
	z ^= z >> 27
	z *= 0x94d049bb133111eb
	return z ^ z>>31
}

func numbers() []int {
	l := []int{0, 1, -1, 2, 1 << 30, math.MaxInt, math.MinInt}
	r := rand.New(rand.NewSource(16))
	for range 1000 {
		l = append(l, int(r.Uint64()))
	}
	return l
}

// P16.1
func TestMixed(t *testing.T) {
	for x, want := range map[int]uint64{0: 0xe220a8397b1dcdaf, 1: 0x910a2dec89025cc1, -1: 0xe4d971771b652c20, 2: 0x975835de1c9756ce} {
		if got := route.Mix(x); got != want {
			t.Errorf("Mix(%d): %#x, want %#x", x, got, want)
		}
	}
	for _, x := range numbers() {
		if got := route.Mix(x); got != mixed(x) {
			t.Errorf("Mix(%d): %#x, want %#x", x, got, mixed(x))
		}
		for _, shards := range []int{1, 2, 3, 15, 16, 4096, math.MaxInt} {
			if got, want := route.Shard(x, shards), int(mixed(x)%uint64(shards)); got != want {
				t.Errorf("Shard(%d, %d): %d, want %d", x, shards, got, want)
			}
		}
		for _, shards := range []int{0, -1, math.MinInt} {
			if got := route.Shard(x, shards); got != 0 {
				t.Errorf("Shard(%d, %d): %d", x, shards, got)
			}
		}
	}
}

// P16.2
func TestOwned(t *testing.T) {
	for i, x := range numbers() {
		for shards := -1; shards < 17; shards++ {
			if got, want := route.Owner(true, i, x, shards), route.Shard(x, shards); got != want {
				t.Errorf("Owner by key %d of %d: %d, want %d", x, shards, got, want)
			}
			if got, want := route.Owner(false, i, x, shards), route.Shard(i, shards); got != want {
				t.Errorf("Owner of %d, of %d: %d, want %d", i, shards, got, want)
			}
		}
	}
}

// undo is x of a number that was moved down, and held against itself.
func undo(z uint64, down int) uint64 {
	x := z
	for n := down; n < 64; n += down {
		x = z ^ x>>down
	}
	return x
}

// inverse of an odd number, in 64 bits.
func inverse(n uint64) uint64 {
	x := n
	for range 6 {
		x *= 2 - n*x
	}
	return x
}

// P16.3: what is mixed can be told back, so that no two numbers are mixed to one
func TestNoTwoToOne(t *testing.T) {
	for _, x := range numbers() {
		z := undo(route.Mix(x), 31) * inverse(0x94d049bb133111eb)
		z = undo(z, 27) * inverse(0xbf58476d1ce4e5b9)
		if back := int(undo(z, 30) - 0x9e3779b97f4a7c15); back != x {
			t.Fatalf("%d is mixed, and told back %d", x, back)
		}
	}
	seen := map[uint64]int{}
	for x := -20000; x < 20000; x++ {
		z := route.Mix(x)
		if y, ok := seen[z]; ok {
			t.Fatalf("%d and %d are mixed to one", x, y)
		}
		seen[z] = x
	}
}
