// Package sat is layer 1: see shared/doc/01-sat.md.
package sat

import "countermand/api"

// earliest is the least time; the greatest one is api.Forever.
const earliest = -1 << 63

// Add adds two times.
func Add(a, b int64) int64 {
	// Each end is held against what is left of it: the sum itself may have gone round.
	return cut(a+b, b > 0 && a > api.Forever-b, b < 0 && a < earliest-b)
}

// Sub takes one time from another.
func Sub(a, b int64) int64 {
	// Not Add of -b: the least time has no number of the other sign.
	return cut(a-b, b < 0 && a > api.Forever+b, b > 0 && a < earliest+b)
}

// cut tells the time nearest to a number that may have gone round, above or below all times.
func cut(n int64, above, below bool) int64 {
	var end int64 = earliest
	switch {
	case above:
		end = api.Forever
		fallthrough
	case below:
		return end
	}
	return n
}

// Until tells how long it is till a time: no time at all, if it has passed.
func Until(at, now int64) int64 {
	if at < now {
		return 0
	}
	return Sub(at, now)
}

// Least tells the least of times; Forever, of none.
func Least(l ...int64) int64 {
	var least int64 = api.Forever
	for _, at := range l {
		least = min(least, at)
	}
	return least
}

// Fits tells whether there is room for n more beside what is held.
func Fits(held, n, most int64) bool {
	if held < 0 || n < 0 || most < 0 {
		return false
	}
	// Not the sum of held and n: that may go round, the difference of two that aren't below 0 can't.
	return n <= most-held
}
