package share

import (
	"math"
	"math/big"
	"slices"
	"testing"

	"symbolon/api"
	"symbolon/ring"
	"symbolon/stream"
)

const top = 1<<64 - 1

// sizes are numbers of all lengths in bits, and those beside them; both ends of uint64 among them.
func sizes() []uint64 {
	list := []uint64{0, 0x5555555555555555, 0xaaaaaaaaaaaaaaaa, 0x9e3779b97f4a7c15}
	for k := range 64 {
		list = append(list, 1<<k, 1<<k-1, 1<<k+1, top-1<<k, top<<k)
	}
	slices.Sort(list)
	return slices.Compact(list)
}

// seeds are the least, the greatest, and some between.
func seeds() []uint64 {
	return []uint64{0, 1, 2, 9, 1 << 32, 0x123456789abcdef, 1 << 63, top - 1, top}
}

// lengths are of rows that may be split.
func lengths() []int { return []int{0, 1, 2, 3, 7, 64, 100, api.MaxRow - 1, api.MaxRow} }

// tooLong are of rows that may not.
func tooLong() []int { return []int{api.MaxRow + 1, api.MaxRow + 2, 2 * api.MaxRow, 1 << 17} }

// spread is a row of numbers of all sizes, which differs by k.
func spread(k uint64, many int) []uint64 {
	row := make([]uint64, many)
	for i := range many {
		row[i] = ((uint64(i)+1)*k + k) * 0xbf58476d1ce4e5b9 >> (uint64(i) * k % 64)
	}
	return row
}

// repeated is a row of one number, many times.
func repeated(n uint64, many int) []uint64 { return slices.Repeat([]uint64{n}, many) }

// rows are some of a length: noughts, the greatest numbers, numbers that differ, numbers of all sizes.
func rows(many int) [][]uint64 {
	all := sizes()
	turns := make([]uint64, many)
	for i := range many {
		turns[i] = all[i%len(all)]
	}
	return [][]uint64{make([]uint64, many), repeated(top, many), spread(3, many), spread(0x94d049bb133111eb, many), turns}
}

// whole is what is left of a sum of numbers without a bound, at 2^64; the sign says whether the second is taken away.
func whole(x, y uint64, sign int64) uint64 {
	sum := new(big.Int).Mul(new(big.Int).SetUint64(y), big.NewInt(sign))
	sum.Add(sum, new(big.Int).SetUint64(x))
	return sum.Mod(sum, new(big.Int).Lsh(big.NewInt(1), 64)).Uint64()
}

// hold holds both parts against J1, number by number.
func hold(t *testing.T, seed uint64, x []uint64) {
	t.Helper()
	a, b := Split(seed, x)
	if len(a) != len(x) || len(b) != len(x) {
		t.Fatalf("Split(%#x, %d numbers): %d and %d", seed, len(x), len(a), len(b))
	}
	for i, n := range x {
		first := stream.Number(seed, uint64(i))
		if second := whole(n, first, -1); a[i] != first || b[i] != second {
			t.Fatalf("Split(%#x, %d numbers), at %d: %#x and %#x, not %#x and %#x", seed, len(x), i, a[i], b[i], first, second)
		}
	}
}

// P10.1 (J1): rows whose parts are known.
func TestKnownParts(t *testing.T) {
	first := []uint64{0xe220a8397b1dcdaf, 0x6e789e6aa1b965f4, 0x06c45d188009454f}
	for _, c := range []struct{ x, second []uint64 }{
		{nil, nil},
		{[]uint64{}, nil},
		{[]uint64{0}, []uint64{0x1ddf57c684e23251}},
		{[]uint64{0xe220a8397b1dcdaf}, []uint64{0}},
		{[]uint64{5, 0, top}, []uint64{0x1ddf57c684e23256, 0x918761955e469a0c, 0xf93ba2e77ff6bab0}},
		{first, []uint64{0, 0, 0}},
	} {
		a, b := Split(0, c.x)
		if !slices.Equal(a, first[:len(c.x)]) || !slices.Equal(b, c.second) {
			t.Errorf("%#x: %#x and %#x, not %#x and %#x", c.x, a, b, first[:len(c.x)], c.second)
		}
	}
}

// P10.1 (J1): rows of many lengths, by many seeds, against J1 written out.
func TestSplit(t *testing.T) {
	for _, seed := range seeds() {
		for _, many := range lengths() {
			for _, x := range rows(many) {
				hold(t, seed, x)
			}
		}
	}
	for _, n := range sizes() {
		for _, seed := range append(seeds(), n) {
			hold(t, seed, []uint64{n})
			hold(t, seed, []uint64{n, n, top - n})
		}
	}
}

// P10.1 (J1): the first part is stream.Row of the seed, from 0 on; the second what ring.Sub makes of both.
func TestSplitByLayersBelow(t *testing.T) {
	for _, seed := range seeds() {
		for _, many := range lengths() {
			for _, x := range rows(many) {
				mask := stream.Row(seed, 0, many)
				a, b := Split(seed, x)
				if !slices.Equal(a, mask) || !slices.Equal(b, ring.Sub(x, mask)) {
					t.Fatalf("Split(%#x, %d numbers)", seed, many)
				}
			}
		}
	}
}

// P10.1 (J1), P2: none, twice, of a row of more than MaxRow; a row of MaxRow has parts, whatever spare room is behind it.
func TestSplitTooLong(t *testing.T) {
	for _, seed := range seeds() {
		for _, many := range tooLong() {
			for _, x := range rows(many) {
				if a, b := Split(seed, x); len(a) != 0 || len(b) != 0 {
					t.Fatalf("Split(%#x, %d numbers): %d and %d", seed, many, len(a), len(b))
				}
			}
			hold(t, seed, spread(3, many)[:api.MaxRow])
			hold(t, seed, spread(3, many)[many-api.MaxRow:])
		}
	}
}

// P10.1 (J1): what Join makes of two rows, of unlike lengths and of none too.
func TestJoin(t *testing.T) {
	for _, c := range []struct{ a, b, want []uint64 }{
		{nil, nil, nil}, {nil, []uint64{1}, nil}, {[]uint64{1, 2}, nil, nil}, {[]uint64{}, []uint64{7}, nil}, {[]uint64{7}, []uint64{}, nil},
		{[]uint64{2}, []uint64{3}, []uint64{5}},
		{[]uint64{1, 2}, []uint64{top}, []uint64{0}},
		{[]uint64{top}, []uint64{top, 5, 6}, []uint64{top - 1}},
		{[]uint64{1 << 63, 1 << 63, 4}, []uint64{1 << 63, 1<<63 - 1, 0}, []uint64{0, top, 4}},
	} {
		if got := Join(c.a, c.b); !slices.Equal(got, c.want) {
			t.Errorf("Join(%#x, %#x): %#x, not %#x", c.a, c.b, got, c.want)
		}
	}
	for _, n := range sizes() {
		for _, m := range sizes() {
			if got, want := Join([]uint64{n}, []uint64{m}), whole(n, m, 1); !slices.Equal(got, []uint64{want}) {
				t.Fatalf("Join of %#x and %#x: %#x, not %#x", n, m, got, want)
			}
		}
	}
}

// P10.1 (J1): a joined row is as long as the shorter one, also where both are beyond MaxRow.
func TestJoinOfLengths(t *testing.T) {
	all := append(lengths(), tooLong()...)
	for _, m := range all {
		for _, n := range all {
			a, b := spread(3, m), spread(5, n)
			got := Join(a, b)
			if len(got) != min(m, n) || !slices.Equal(got, ring.Add(a, b)) {
				t.Fatalf("%d and %d numbers: %d", m, n, len(got))
			}
			for _, i := range []int{0, len(got) / 2, len(got) - 1} {
				if i >= 0 && i < len(got) && got[i] != whole(a[i], b[i], 1) {
					t.Fatalf("%d and %d numbers, at %d: %#x", m, n, i, got[i])
				}
			}
		}
	}
}

// P10.1 (J2): x for 0, as many noughts for all others; the example of the chapter first.
func TestPart(t *testing.T) {
	if got := Part(1, []uint64{5}); !slices.Equal(got, []uint64{0}) {
		t.Errorf("Part(1, 5): %d", got)
	}
	others := []int{1, 2, 3, -1, -2, 256, -256, 1 << 16, 1 << 31, 1 << 32, -1 << 32, 1<<32 + 1, 1 << 62, math.MaxInt - 1, math.MaxInt, math.MinInt, math.MinInt + 1}
	for _, many := range append(lengths(), tooLong()...) {
		for _, x := range rows(many) {
			if got := Part(0, x); !slices.Equal(got, x) {
				t.Fatalf("Part(0, %d numbers): %d", many, len(got))
			}
			for _, who := range others {
				if got := Part(who, x); !slices.Equal(got, make([]uint64, many)) {
					t.Fatalf("Part(%d, %d numbers): %d", who, many, len(got))
				}
			}
		}
	}
	for _, who := range append(others, 0) {
		if got := Part(who, nil); len(got) != 0 {
			t.Errorf("Part(%d, none): %#x", who, got)
		}
	}
}

// P10.2: what is split is joined again, in either order of both parts; so is what Part makes for both parties.
func TestThereAndBack(t *testing.T) {
	for _, many := range lengths() {
		for _, x := range rows(many) {
			for _, seed := range seeds() {
				a, b := Split(seed, x)
				if !slices.Equal(Join(a, b), x) || !slices.Equal(Join(b, a), x) {
					t.Fatalf("seed %#x, %d numbers", seed, many)
				}
			}
			if !slices.Equal(Join(Part(0, x), Part(1, x)), x) || !slices.Equal(Join(Part(1, x), Part(0, x)), x) {
				t.Fatalf("both parts of %d numbers", many)
			}
		}
	}
	for _, n := range sizes() {
		for _, seed := range sizes() {
			if a, b := Split(seed, []uint64{n}); !slices.Equal(Join(a, b), []uint64{n}) {
				t.Fatalf("seed %#x: %#x is %#x and %#x", seed, n, a, b)
			}
		}
	}
}

// P10.3: the first part is the same for all rows as long, and begins as that of a longer one does.
func TestFirstPartIsTheSame(t *testing.T) {
	for _, seed := range seeds() {
		longest, _ := Split(seed, make([]uint64, api.MaxRow))
		for _, many := range lengths() {
			for _, x := range rows(many) {
				if a, _ := Split(seed, x); !slices.Equal(a, longest[:many]) {
					t.Fatalf("seed %#x, %d numbers", seed, many)
				}
			}
		}
		for _, n := range sizes() {
			if a, _ := Split(seed, []uint64{n}); !slices.Equal(a, longest[:1]) {
				t.Fatalf("seed %#x, %#x: %#x", seed, n, a)
			}
		}
	}
}

// P10.3: each row is the second part of one, whatever the seed: of that and the first part together.
func TestEachRowMayBeSecond(t *testing.T) {
	is := func(seed uint64, row []uint64) {
		t.Helper()
		first, _ := Split(seed, make([]uint64, len(row)))
		a, b := Split(seed, Join(first, row))
		if !slices.Equal(a, first) || !slices.Equal(b, row) {
			t.Fatalf("seed %#x, %d numbers", seed, len(row))
		}
	}
	for _, seed := range seeds() {
		for _, many := range lengths() {
			for _, row := range rows(many) {
				is(seed, row)
			}
		}
		for _, n := range sizes() {
			is(seed, []uint64{n})
			is(seed, []uint64{top - n, n})
		}
	}
}

// P10.3: rows that differ, in a single bit too, have second parts that do, at that place alone.
func TestSecondPartsDiffer(t *testing.T) {
	const many = 5
	for _, seed := range seeds() {
		x := spread(7, many)
		_, b := Split(seed, x)
		for at := range many {
			for bit := range 64 {
				y := slices.Clone(x)
				y[at] ^= 1 << bit
				_, d := Split(seed, y)
				for i := range many {
					if (b[i] != d[i]) != (i == at) {
						t.Fatalf("seed %#x, bit %d at %d: %#x and %#x", seed, bit, at, b, d)
					}
				}
			}
		}
	}
}

// P10.4: sums of parts are parts of sums, by any two seeds; so is what is taken away, or times a number.
func TestLinear(t *testing.T) {
	for _, many := range lengths() {
		all := rows(many)
		for i, x := range all {
			y := all[(i+1)%len(all)]
			for _, seed := range seeds() {
				for _, other := range []uint64{seed, seed + 1, ^seed, 0, top} {
					a, b := Split(seed, x)
					c, d := Split(other, y)
					for law, sides := range map[string][2][]uint64{
						"sum":   {Join(ring.Add(a, c), ring.Add(b, d)), ring.Add(x, y)},
						"less":  {Join(ring.Sub(a, c), ring.Sub(b, d)), ring.Sub(x, y)},
						"times": {Join(ring.Scale(other, a), ring.Scale(other, b)), ring.Scale(other, x)},
					} {
						if !slices.Equal(sides[0], sides[1]) {
							t.Fatalf("%s of %d numbers, seeds %#x and %#x", law, many, seed, other)
						}
					}
				}
			}
		}
	}
}

// P10.4: what Split makes of a sum is what it makes of one, and of the other one less its mask; what Part makes of a sum is a sum.
func TestPartsOfSums(t *testing.T) {
	for _, many := range lengths() {
		all := rows(many)
		for i, x := range all {
			y := all[(i+2)%len(all)]
			for _, seed := range seeds() {
				a, b := Split(seed, x)
				c, d := Split(seed, Join(x, y))
				if !slices.Equal(c, a) || !slices.Equal(d, ring.Add(b, y)) {
					t.Fatalf("seed %#x, %d numbers", seed, many)
				}
			}
			for _, who := range []int{0, 1, 2, -1} {
				if !slices.Equal(Part(who, Join(x, y)), Join(Part(who, x), Part(who, y))) {
					t.Fatalf("Part(%d, sum of %d numbers)", who, many)
				}
			}
		}
	}
}

// calls are those of the layer, each with the rows that come out.
func calls() map[string]func(x, y []uint64) [][]uint64 {
	return map[string]func(x, y []uint64) [][]uint64{
		"Split": func(x, y []uint64) [][]uint64 {
			a, b := Split(9, x)
			c, d := Split(9, y)
			return [][]uint64{a, b, c, d}
		},
		"Join":       func(x, y []uint64) [][]uint64 { return [][]uint64{Join(x, y), Join(y, x)} },
		"Join twice": func(x, y []uint64) [][]uint64 { return [][]uint64{Join(x, x), Join(y, y)} },
		"Part of 0":  func(x, y []uint64) [][]uint64 { return [][]uint64{Part(0, x), Part(0, y)} },
		"Part of 1":  func(x, y []uint64) [][]uint64 { return [][]uint64{Part(1, x), Part(1, y)} },
		"Part of -1": func(x, y []uint64) [][]uint64 { return [][]uint64{Part(-1, x), Part(-1, y)} },
	}
}

// pairs are lengths of two rows that are handed in.
func pairs() [][2]int {
	return [][2]int{{0, 0}, {0, 3}, {3, 0}, {1, 1}, {3, 3}, {2, 5}, {5, 2}, {100, 100}, {api.MaxRow, api.MaxRow}, {api.MaxRow + 1, api.MaxRow}, {api.MaxRow + 1, api.MaxRow + 1}}
}

// P3: what is handed in is not changed, nor its spare room; nor is it by one who writes over what came out.
func TestArgumentsStay(t *testing.T) {
	for name, call := range calls() {
		for _, many := range pairs() {
			x, y := spread(3, many[0]+8), spread(5, many[1]+8)
			wantX, wantY := slices.Clone(x), slices.Clone(y)
			for _, row := range call(x[:many[0]], y[:many[1]]) {
				fill(row, 0xdeadbeef)
			}
			if !slices.Equal(x, wantX) || !slices.Equal(y, wantY) {
				t.Errorf("%s of %v changes what is handed in", name, many)
			}
		}
	}
}

// P3: what comes out is new memory, its spare room too: no two rows share any, none shares what was handed in; and no call hangs on one ahead of it.
func TestAnswersAreNew(t *testing.T) {
	for name, call := range calls() {
		for _, many := range pairs() {
			x, y := spread(3, many[0]+8), spread(5, many[1]+8)
			first, want := call(x[:many[0]], y[:many[1]]), [][]uint64{}
			for _, row := range first {
				want = append(want, slices.Clone(row))
			}
			apart(t, name, slices.Concat([][]uint64{x, y}, first, call(x[:many[0]], y[:many[1]])))
			x, y = spread(3, many[0]), spread(5, many[1])
			for i, row := range call(x, y) {
				if !slices.Equal(row, want[i]) {
					t.Errorf("%s of %v: %#x, then %#x", name, many, want[i], row)
				}
			}
		}
	}
}

// apart writes a number of its own all over each row, its spare room too, and looks whether all are still there.
func apart(t *testing.T, name string, rows [][]uint64) {
	t.Helper()
	for i, row := range rows {
		fill(row, uint64(i))
	}
	for i, row := range rows {
		row = row[:cap(row)]
		if !slices.Equal(row, repeated(uint64(i), len(row))) {
			t.Errorf("%s: row %d of %d shares memory", name, i, len(rows))
		}
	}
}

// fill lays a number everywhere in a row, in its spare room too.
func fill(row []uint64, n uint64) {
	row = row[:cap(row)]
	for i := range row {
		row[i] = n
	}
}
