package stream

import (
	"math"
	"math/big"
	"slices"
	"testing"

	"symbolon/api"
)

const (
	top     = 1<<64 - 1
	g       = 0x9e3779b97f4a7c15
	lacking = 1<<64 - g // what G lacks of 2^64
)

// sizes are numbers of all lengths in bits, and those beside them; both ends of uint64 among them.
func sizes() []uint64 {
	list := []uint64{0, g, lacking, 0x5555555555555555, 0xaaaaaaaaaaaaaaaa}
	for k := range 64 {
		list = append(list, 1<<k, 1<<k-1, 1<<k+1, top-1<<k, top<<k, (g>>k)|1<<(63-k))
	}
	slices.Sort(list)
	return slices.Compact(list)
}

// some are fewer, for where each is held against each.
func some() []uint64 {
	return []uint64{0, 1, 2, 3, 77, 1<<31 - 1, 1 << 32, 1<<40 + 5, 0x123456789abcdef, g, lacking, 1<<63 - 1, 1 << 63, 1<<63 + 1, top - 2, top - 1, top}
}

// wide is a number without a bound.
func wide(x uint64) *big.Int { return new(big.Int).SetUint64(x) }

// round is what is left of a number at 2^64.
func round(x *big.Int) *big.Int {
	return new(big.Int).Mod(x, new(big.Int).Lsh(big.NewInt(1), 64))
}

// shifted is what a division by 2^k leaves of z, laid upon z bit by bit.
func shifted(z *big.Int, k int64) *big.Int {
	power := new(big.Int).Exp(big.NewInt(2), big.NewInt(k), nil)
	left := new(big.Int).Div(z, power)
	sum := new(big.Int)
	for bit := range 64 {
		sum.SetBit(sum, bit, (z.Bit(bit)+left.Bit(bit))%2)
	}
	return sum
}

// times is a product that goes round.
func times(z *big.Int, by uint64) *big.Int { return round(new(big.Int).Mul(z, wide(by))) }

// model is I1, step by step, in numbers without a bound.
func model(seed, i uint64) uint64 {
	z := new(big.Int).Add(wide(i), big.NewInt(1))
	z.Mul(z, wide(0x9e3779b97f4a7c15))
	z = round(z.Add(z, wide(seed)))
	z = times(shifted(z, 30), 0xbf58476d1ce4e5b9)
	z = times(shifted(z, 27), 0x94d049bb133111eb)
	return shifted(z, 31).Uint64()
}

// hold holds Number against the model.
func hold(t *testing.T, seed, i uint64) {
	t.Helper()
	if got, want := Number(seed, i), model(seed, i); got != want {
		t.Errorf("Number(%#x, %#x): %#x, not %#x", seed, i, got, want)
	}
}

// P9.1 (I1): numbers that are known, the chapter's own first.
func TestKnownNumbers(t *testing.T) {
	for _, c := range []struct{ seed, i, want uint64 }{
		{0, 0, 0xe220a8397b1dcdaf}, {0, 1, 0x6e789e6aa1b965f4}, {0, 2, 0x06c45d188009454f},
		{1234567, 0, 6457827717110365317}, {1234567, 1, 3203168211198807973}, {1234567, 2, 9817491932198370423}, {1234567, 3, 4593380528125082431}, {1234567, 4, 16408922859458223821},
		{0, top, 0}, {g, top - 1, 0}, {lacking, 0, 0},
	} {
		if got := Number(c.seed, c.i); got != c.want {
			t.Errorf("Number(%#x, %d): %#x, not %#x", c.seed, c.i, got, c.want)
		}
		if got := Back(c.seed, c.want); got != c.i {
			t.Errorf("Back(%#x, %#x): %d, not %d", c.seed, c.want, got, c.i)
		}
	}
}

// P9.1 (I1): against the steps written out, at numbers of all sizes.
func TestNumberStepByStep(t *testing.T) {
	for _, x := range sizes() {
		for _, y := range some() {
			hold(t, x, y)
			hold(t, y, x)
		}
		hold(t, x, x)
	}
	for i := range uint64(200) {
		hold(t, i*0xd1342543de82ef95, i*i*0xbf58476d1ce4e5b9)
	}
}

// P9.1 (I1): where i and 1, the product by G, and the sum with the seed go beyond 2^64, and just do not.
func TestNumberGoesRound(t *testing.T) {
	for _, seed := range some() {
		for _, i := range []uint64{top, top - 1, top / g, top/g - 1, top/g + 1, 2 * (top / g), 2*(top/g) + 1} {
			hold(t, seed, i)
		}
	}
	for _, i := range append(sizes(), 4, 5, 6, 7, 8) {
		least := -((i + 1) * g)
		for _, seed := range []uint64{least - 2, least - 1, least, least + 1, least + 2} {
			hold(t, seed, i)
		}
		if n := Number(least, i); n != 0 {
			t.Errorf("Number(%#x, %#x): %#x, not 0", least, i, n)
		}
	}
}

// P9.1 (I1): a seed that is greater by G tells the numbers one place further on.
func TestSeedFurtherOn(t *testing.T) {
	for _, seed := range some() {
		for _, i := range sizes() {
			if Number(seed+g, i) != Number(seed, i+1) {
				t.Errorf("seeds %#x and %#x at %#x", seed, seed+g, i)
			}
		}
	}
}

// P9.1 (I2), P9.2: there and back, and back and there, of numbers of all sizes.
func TestThereAndBack(t *testing.T) {
	both := func(seed, x uint64) {
		if got := Back(seed, Number(seed, x)); got != x {
			t.Errorf("Back of Number(%#x, %#x): %#x", seed, x, got)
		}
		if got := Number(seed, Back(seed, x)); got != x {
			t.Errorf("Number of Back(%#x, %#x): %#x", seed, x, got)
		}
	}
	for _, seed := range append(sizes(), some()...) {
		for _, x := range sizes() {
			both(seed, x)
		}
	}
	for i := range uint64(1 << 16) {
		both(i*0xd1342543de82ef95, i)
		both(i, i*0x9fb21c651e98df25)
	}
}

// P9.1 (I2): the place that Back tells is one whose number the steps make of it.
func TestBackStepByStep(t *testing.T) {
	for _, seed := range some() {
		for _, n := range sizes() {
			if i := Back(seed, n); model(seed, i) != n {
				t.Errorf("Back(%#x, %#x): %#x, whose number is %#x", seed, n, i, model(seed, i))
			}
		}
	}
}

// P9.2: of one seed no two places have the same number, no two numbers the same place: at the first places, the last, and places of all sizes.
func TestEachOnce(t *testing.T) {
	places := sizes()
	for i := range uint64(1 << 14) {
		places = append(places, i, -i, 1<<63+i, i<<32, i<<50)
	}
	slices.Sort(places)
	places = slices.Compact(places)
	for _, seed := range []uint64{0, 1, g, 0x123456789abcdef, top} {
		numbers, found := map[uint64]uint64{}, map[uint64]uint64{}
		for _, x := range places {
			n, i := Number(seed, x), Back(seed, x)
			if other, two := numbers[n]; two {
				t.Fatalf("seed %#x: places %#x and %#x have the number %#x", seed, other, x, n)
			}
			if other, two := found[i]; two {
				t.Fatalf("seed %#x: numbers %#x and %#x have the place %#x", seed, other, x, i)
			}
			numbers[n], found[i] = x, x
		}
	}
}

// P9.1 (I3): a row is the Numbers from its first place on, one behind the other, also over the greatest place.
func TestRow(t *testing.T) {
	for _, seed := range some() {
		for _, from := range append(some(), top-99, top-98, top-100, top-api.MaxRow) {
			for _, many := range []int{1, 2, 3, 100} {
				row := Row(seed, from, many)
				if len(row) != many {
					t.Fatalf("Row(%#x, %#x, %d) has %d", seed, from, many, len(row))
				}
				place := from
				for i, n := range row {
					if n != Number(seed, place) {
						t.Fatalf("Row(%#x, %#x, %d) has %#x at %d, not %#x", seed, from, many, n, i, Number(seed, place))
					}
					place++
				}
			}
		}
	}
	if got, want := Row(0, top, 3), []uint64{0, 0xe220a8397b1dcdaf, 0x6e789e6aa1b965f4}; !slices.Equal(got, want) {
		t.Errorf("Row(0, %#x, 3): %#x, not %#x", uint64(top), got, want)
	}
}

// P9.1 (I3): a row of as many as may be, against the steps written out.
func TestLongestRow(t *testing.T) {
	for _, from := range []uint64{0, 5, top - 2000} {
		row := Row(0x123456789abcdef, from, api.MaxRow)
		if len(row) != 4096 {
			t.Fatalf("from %#x: %d numbers", from, len(row))
		}
		for i, n := range row {
			if want := model(0x123456789abcdef, from+uint64(i)); n != want {
				t.Fatalf("from %#x: %#x at %d, not %#x", from, n, i, want)
			}
		}
	}
}

// P9.1 (I3): how many there are; none below 1, and none beyond MaxRow.
func TestHowMany(t *testing.T) {
	for _, seed := range some() {
		for _, from := range []uint64{0, 9, top} {
			for _, many := range []int{1, 2, 4095, 4096} {
				if row := Row(seed, from, many); len(row) != many {
					t.Errorf("Row(%#x, %#x, %d) has %d", seed, from, many, len(row))
				}
			}
			for _, many := range []int{0, -1, -2, -4096, 4097, 4098, 8192, 1 << 31, 1<<32 + 1, -1<<32 + 1, 1 << 62, math.MaxInt - 1, math.MaxInt, math.MinInt, math.MinInt + 1} {
				if row := Row(seed, from, many); len(row) != 0 {
					t.Errorf("Row(%#x, %#x, %d) has %d", seed, from, many, len(row))
				}
			}
		}
	}
}

// P9.3: a row is its parts, wherever it is cut, once or twice; a part of none is empty.
func TestInParts(t *testing.T) {
	for _, seed := range some() {
		for _, from := range []uint64{0, 1, 1<<32 - 3, top - 20, top} {
			const many = 40
			row := Row(seed, from, many)
			for cut := range many + 1 {
				rest := Row(seed, from+uint64(cut), many-cut)
				if parts := slices.Concat(Row(seed, from, cut), rest); !slices.Equal(parts, row) {
					t.Fatalf("Row(%#x, %#x, %d), cut at %d: %#x, not %#x", seed, from, many, cut, parts, row)
				}
				for next := range many - cut + 1 {
					if part := Row(seed, from+uint64(cut), next); !slices.Equal(part, row[cut:cut+next]) {
						t.Fatalf("Row(%#x, %#x, %d), from %d to %d: %#x", seed, from, many, cut, cut+next, part)
					}
				}
			}
		}
	}
}

// P9.3: the longest row, cut at each place; and one number at a time.
func TestLongestRowInParts(t *testing.T) {
	const seed, from = uint64(0xfedcba987654321), uint64(top - 1000)
	row := Row(seed, from, api.MaxRow)
	for cut := range api.MaxRow + 1 {
		ahead, behind := Row(seed, from, cut), Row(seed, from+uint64(cut), api.MaxRow-cut)
		if !slices.Equal(ahead, row[:cut]) || !slices.Equal(behind, row[cut:]) {
			t.Fatalf("cut at %d", cut)
		}
	}
	for i, n := range row {
		if one := Row(seed, from+uint64(i), 1); !slices.Equal(one, []uint64{n}) {
			t.Fatalf("at %d: %#x, not %#x", i, one, n)
		}
	}
}

// P3: what comes out is new memory, its spare room too, and no call hangs on one ahead of it.
func TestRowsAreNew(t *testing.T) {
	for _, many := range []int{-1, 0, 1, 3, 5, 100, api.MaxRow, api.MaxRow + 1} {
		first := Row(7, 9, many)
		want := slices.Clone(first)
		second := Row(7, 9, many)
		if !slices.Equal(first, second) {
			t.Errorf("%d: %#x, then %#x", many, first, second)
		}
		spoil(second)
		if !slices.Equal(first, want) {
			t.Errorf("%d: two rows share memory", many)
		}
		if !slices.Equal(Row(7, 9, many), want) {
			t.Errorf("%d: a row is kept", many)
		}
		spoil(first)
		if many > 1 && many <= api.MaxRow && (Number(7, 9) != want[0] || Back(7, want[1]) != 10) {
			t.Errorf("%d: numbers hang on a row", many)
		}
	}
}

// spoil writes over a row, and over its spare room.
func spoil(row []uint64) {
	row = row[:cap(row)]
	for i := range row {
		row[i] = 0xdeadbeef
	}
}
