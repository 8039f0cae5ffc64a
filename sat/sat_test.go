package sat_test

import (
	"math/big"
	"slices"
	"testing"

	"countermand/api"
	"countermand/sat"
)

const (
	forever  int64 = api.Forever
	earliest int64 = -1 << 63
	half     int64 = 1 << 62
)

// edges are times at which a sum or a difference may go round, and some that lie between.
func edges() []int64 {
	var l []int64
	for _, mid := range []int64{0, half, -half} {
		for d := int64(-3); d <= 3; d++ {
			l = append(l, mid+d)
		}
	}
	for d := range int64(4) {
		l = append(l, earliest+d, forever-d)
	}
	return append(l, 8, -8, 1000, -1000, 1<<31, -1<<31, 1<<32, 123456789012345678)
}

// nearest is the time nearest to a number of any size.
func nearest(n *big.Int) int64 {
	switch {
	case n.IsInt64():
		return n.Int64()
	case n.Sign() > 0:
		return forever
	}
	return earliest
}

func wantSum(a, b int64) int64 {
	return nearest(new(big.Int).Add(big.NewInt(a), big.NewInt(b)))
}

func wantDifference(a, b int64) int64 {
	return nearest(new(big.Int).Sub(big.NewInt(a), big.NewInt(b)))
}

// P1.1
func TestAdd(t *testing.T) {
	for _, c := range []struct{ a, b, want int64 }{
		{0, 0, 0},
		{2, 3, 5},
		{-5, 2, -3},
		{5, -8, -3},
		{forever, 0, forever},
		{forever, 1, forever},
		{forever - 1, 1, forever},
		{forever - 1, 2, forever},
		{forever, forever, forever},
		{half, half, forever},
		{half, half - 1, forever},
		{half, half - 2, forever - 1},
		{forever, -1, forever - 1},
		{earliest, 0, earliest},
		{earliest, -1, earliest},
		{earliest + 1, -1, earliest},
		{earliest + 1, -2, earliest},
		{earliest, earliest, earliest},
		{-half, -half, earliest},
		{-half, -half - 1, earliest},
		{-half, -half + 1, earliest + 1},
		{earliest, 1, earliest + 1},
		{forever, earliest, -1},
	} {
		if got := sat.Add(c.a, c.b); got != c.want {
			t.Errorf("Add(%d, %d) = %d, want %d", c.a, c.b, got, c.want)
		}
	}
}

// P1.1
func TestSub(t *testing.T) {
	for _, c := range []struct{ a, b, want int64 }{
		{0, 0, 0},
		{8, 3, 5},
		{3, 8, -5},
		{-5, 2, -7},
		{forever, forever, 0},
		{forever, -1, forever},
		{forever - 1, -1, forever},
		{forever - 1, -2, forever},
		{forever, 1, forever - 1},
		{forever, earliest, forever},
		{0, forever, -forever},
		{-1, forever, earliest},
		{-2, forever, earliest},
		{earliest, 1, earliest},
		{earliest + 1, 1, earliest},
		{earliest + 1, 2, earliest},
		{earliest, -1, earliest + 1},
		{earliest, earliest, 0},
		{earliest, forever, earliest},
		{1, earliest, forever},
		{0, earliest, forever},
		{-1, earliest, forever},
		{-2, earliest, forever - 1},
	} {
		if got := sat.Sub(c.a, c.b); got != c.want {
			t.Errorf("Sub(%d, %d) = %d, want %d", c.a, c.b, got, c.want)
		}
	}
}

// P1.1
func TestUntil(t *testing.T) {
	for _, c := range []struct{ at, now, want int64 }{
		{8, 3, 5},
		{3, 8, 0},
		{4, 4, 0},
		{4, 5, 0},
		{5, 4, 1},
		{-3, -8, 5},
		{-8, -3, 0},
		{forever, 0, forever},
		{forever, forever, 0},
		{forever, -1, forever},
		{forever, earliest, forever},
		{0, forever, 0},
		{0, earliest, forever},
		{-1, earliest, forever},
		{-2, earliest, forever - 1},
		{earliest, earliest, 0},
		{earliest, earliest + 1, 0},
		{earliest, forever, 0},
	} {
		if got := sat.Until(c.at, c.now); got != c.want {
			t.Errorf("Until(%d, %d) = %d, want %d", c.at, c.now, got, c.want)
		}
	}
}

// P1.1: all pairs of edges, held against numbers that have no ends.
func TestSumsOfEdges(t *testing.T) {
	for _, a := range edges() {
		for _, b := range edges() {
			if got, want := sat.Add(a, b), wantSum(a, b); got != want {
				t.Errorf("Add(%d, %d) = %d, want %d", a, b, got, want)
			}
			if got, want := sat.Sub(a, b), wantDifference(a, b); got != want {
				t.Errorf("Sub(%d, %d) = %d, want %d", a, b, got, want)
			}
			if got, want := sat.Until(a, b), max(0, wantDifference(a, b)); got != want {
				t.Errorf("Until(%d, %d) = %d, want %d", a, b, got, want)
			}
		}
	}
}

// P1.1
func TestLeast(t *testing.T) {
	for _, c := range []struct {
		list []int64
		want int64
	}{
		{nil, forever},
		{[]int64{}, forever},
		{[]int64{5}, 5},
		{[]int64{forever}, forever},
		{[]int64{earliest}, earliest},
		{[]int64{0, 0}, 0},
		{[]int64{-2, 4, 9}, -2},
		{[]int64{4, -2, 9}, -2},
		{[]int64{9, 4, -2}, -2},
		{[]int64{forever, earliest}, earliest},
		{[]int64{earliest, forever}, earliest},
		{[]int64{forever, forever - 1}, forever - 1},
	} {
		kept := slices.Clone(c.list)
		if got := sat.Least(c.list...); got != c.want {
			t.Errorf("Least(%v) = %d, want %d", c.list, got, c.want)
		}
		if !slices.Equal(c.list, kept) {
			t.Errorf("Least changed its list from %v to %v", kept, c.list)
		}
	}
	if got := sat.Least(); got != forever {
		t.Errorf("Least() = %d, want %d", got, forever)
	}
}

// P1.2
func TestFits(t *testing.T) {
	for _, c := range []struct {
		held, n, most int64
		want          bool
	}{
		{0, 0, 0, true},
		{2, 3, 5, true},
		{3, 3, 5, false},
		{5, 0, 5, true},
		{0, 5, 5, true},
		{6, 0, 5, false},
		{0, 6, 5, false},
		{1, 0, 0, false},
		{0, 1, 0, false},
		{-1, 0, 5, false},
		{-1, 1, 5, false},
		{0, -1, 5, false},
		{1, -1, 5, false},
		{9, -8, 5, false},
		{0, 0, -1, false},
		{-1, -1, -1, false},
		{-2, 1, -1, false},
		{earliest, 0, forever, false},
		{0, earliest, forever, false},
		{0, 0, earliest, false},
		{earliest, earliest, 0, false},
		{forever, 0, forever, true},
		{0, forever, forever, true},
		{forever - 1, 1, forever, true},
		{forever, 1, forever, false},
		{1, forever, forever, false},
		{forever, forever, forever, false},
		{half, half, forever, false},
		{half, half - 1, forever, true},
		{forever, forever, 0, false},
		{forever, 0, 0, false},
	} {
		if got := sat.Fits(c.held, c.n, c.most); got != c.want {
			t.Errorf("Fits(%d, %d, %d) = %t, want %t", c.held, c.n, c.most, got, c.want)
		}
	}
}

// P1.2: all triples of edges, held against numbers that have no ends.
func TestFitsOfEdges(t *testing.T) {
	for _, held := range edges() {
		for _, n := range edges() {
			sum := new(big.Int).Add(big.NewInt(held), big.NewInt(n))
			for _, most := range edges() {
				want := min(held, n, most) >= 0 && sum.Cmp(big.NewInt(most)) <= 0
				if got := sat.Fits(held, n, most); got != want {
					t.Errorf("Fits(%d, %d, %d) = %t, want %t", held, n, most, got, want)
				}
			}
		}
	}
}

// P1.3: sums turn about, and never fall where a part rises.
func TestSumsTurnAboutAndRise(t *testing.T) {
	parts := edges()
	slices.Sort(parts)
	for _, a := range parts {
		last := earliest
		for _, b := range parts {
			sum := sat.Add(a, b)
			if turned := sat.Add(b, a); sum != turned {
				t.Errorf("Add(%d, %d) = %d, but %d the other way about", a, b, sum, turned)
			}
			if sum < last {
				t.Errorf("Add(%d, %d) = %d, less than %d of a lesser part", a, b, sum, last)
			}
			last = sum
		}
	}
}

// P1.3: who waits for Until is there just then, wherever the time between is a time itself.
func TestWhoWaitsIsThere(t *testing.T) {
	for _, now := range edges() {
		for _, at := range edges() {
			between := new(big.Int).Sub(big.NewInt(at), big.NewInt(now))
			if !between.IsInt64() {
				continue
			}
			if got, want := sat.Add(now, sat.Until(at, now)), max(at, now); got != want {
				t.Errorf("from %d, waiting till %d ends at %d, want %d", now, at, got, want)
			}
		}
	}
}

// P1.3: what fits leaves room for less, be it less that comes or less that is held; and more room is no worse.
func TestWhatFitsLeavesRoomForLess(t *testing.T) {
	sizes := []int64{0, 1, 2, 3, half - 1, half, half + 1, forever - 1, forever}
	for _, held := range sizes {
		for _, n := range sizes {
			for _, most := range sizes {
				if !sat.Fits(held, n, most) {
					continue
				}
				for _, less := range sizes {
					if less <= n && !sat.Fits(held, less, most) {
						t.Errorf("%d fits beside %d in %d, but not %d", n, held, most, less)
					}
					if less <= held && !sat.Fits(less, n, most) {
						t.Errorf("%d fits beside %d in %d, but not beside %d", n, held, most, less)
					}
					if less >= most && !sat.Fits(held, n, less) {
						t.Errorf("%d fits beside %d in %d, but not in %d", n, held, most, less)
					}
				}
			}
		}
	}
}
