// Package ring is layer 1: see shared/doc/01-ring.md.
package ring

// Add, Sub and Mul are rows, number by number.
func Add(a []uint64, b []uint64) []uint64 {
	return pair(a, b, func(x, y uint64) uint64 { return x + y })
}

// Sub is a difference.
func Sub(a []uint64, b []uint64) []uint64 {
	return pair(a, b, func(x, y uint64) uint64 { return x - y })
}

// Mul is a product.
func Mul(a []uint64, b []uint64) []uint64 {
	return pair(a, b, func(x, y uint64) uint64 { return x * y })
}

// Scale is a row, times a number.
func Scale(k uint64, a []uint64) []uint64 {
	return pair(a, a, func(x, _ uint64) uint64 { return k * x })
}

// Sum is that of all.
func Sum(a []uint64) uint64 {
	sum := uint64(0)
	for _, x := range a {
		sum += x
	}
	return sum
}

// Dot is the sum of products.
func Dot(a []uint64, b []uint64) uint64 { return Sum(Mul(a, b)) }

// Inverse is the number whose product with one is 1.
func Inverse(x uint64) (uint64, bool) {
	if x%2 == 0 {
		return 0, false
	}
	// The square of an odd number is 1 modulo 8, so x is its own inverse in the lowest 3 bits. Each turn doubles how many bits are right: 3, 6, 12, 24, 48, 96.
	y := x
	for range 5 {
		y *= 2 - x*y
	}
	return y, true
}

// pair is the row of what f makes of a's and b's numbers, place by place, as far as both go.
func pair(a, b []uint64, f func(x, y uint64) uint64) []uint64 {
	row := make([]uint64, min(len(a), len(b)))
	for i := range len(row) {
		row[i] = f(a[i], b[i])
	}
	return row
}
