package triple

import (
	"math"
	"math/big"
	"slices"
	"testing"

	"symbolon/api"
	"symbolon/stream"
)

const top = 1<<64 - 1

// fifth is the greatest number of which five times is no more than the greatest one: 5i is top, and 5i and 1 goes on at 0.
const fifth = top / 5

// sizes are numbers of all lengths in bits, and those beside them; both ends of uint64 among them.
func sizes() []uint64 {
	list := []uint64{0, 6, 0x5555555555555555, 0xaaaaaaaaaaaaaaaa, 0x9e3779b97f4a7c15}
	for k := range 64 {
		list = append(list, 1<<k, 1<<k-1, 1<<k+1, top-1<<k, top<<k)
	}
	slices.Sort(list)
	return slices.Compact(list)
}

// seeds are the least, the greatest, and some between.
func seeds() []uint64 {
	return []uint64{0, 1, 2, 7, 1 << 32, 0x123456789abcdef, 1 << 63, top - 1, top}
}

// edges are numbers at which 5i, or 5i and at most 4, goes beyond the greatest number, as often as it may, and those beside them.
func edges() []uint64 {
	list := []uint64{0, 1, 2, 3, 500, top}
	for times := range uint64(6) {
		for _, d := range []uint64{top - 1, top, 0, 1, 2} {
			list = append(list, times*fifth+d)
		}
	}
	for beyond := range uint64(5) {
		i := new(big.Int).Lsh(big.NewInt(int64(beyond)), 64)
		i.Div(i, big.NewInt(5))
		list = append(list, i.Uint64(), i.Uint64()+1)
	}
	slices.Sort(list)
	return slices.Compact(list)
}

// places are numbers of all sizes, and the edges.
func places() []uint64 {
	list := append(sizes(), edges()...)
	slices.Sort(list)
	return slices.Compact(list)
}

// others are all kinds of numbers of a party that is not 0.
func others() []int {
	return []int{1, 2, 3, 9, -1, -2, 256, -256, 1 << 16, 1 << 31, 1 << 32, -1 << 32, 1<<32 + 1, 1 << 62, math.MaxInt - 1, math.MaxInt, math.MinInt, math.MinInt + 1}
}

// manies are lengths that a row may have.
func manies() []int { return []int{1, 2, 3, 5, 7, 64, api.MaxRow - 1, api.MaxRow} }

// noRow are numbers of which there is none.
func noRow() []int {
	return []int{0, -1, -2, -api.MaxRow, math.MinInt, math.MinInt + 1, -1 << 32, api.MaxRow + 1, api.MaxRow + 2, 2 * api.MaxRow, 1 << 31, 1 << 32, 1<<32 + 1, 1 << 62, math.MaxInt}
}

// without is a number as one without a bound.
func without(n uint64) *big.Int { return new(big.Int).SetUint64(n) }

// round is what is left of a number without a bound, at 2^64.
func round(n *big.Int) uint64 {
	return new(big.Int).Mod(n, new(big.Int).Lsh(big.NewInt(1), 64)).Uint64()
}

// drawn is the stream's number of a seed at 5i and k, which may go on beyond the greatest number.
func drawn(seed, i uint64, k int64) *big.Int {
	place := new(big.Int).Mul(without(i), big.NewInt(5))
	return without(stream.Number(seed, round(place.Add(place, big.NewInt(k)))))
}

// product is that of the sums of two pairs.
func product(a, b, c, d *big.Int) *big.Int {
	left, right := new(big.Int).Add(a, b), new(big.Int).Add(c, d)
	return left.Mul(left, right)
}

// model is K1, written out in numbers without a bound: what both parties have.
func model(seed, i uint64) (api.Triple, api.Triple) {
	p, q, r, s, t := drawn(seed, i, 0), drawn(seed, i, 1), drawn(seed, i, 2), drawn(seed, i, 3), drawn(seed, i, 4)
	c := product(p, s, q, t)
	c.Sub(c, r)
	return api.Triple{A: round(p), B: round(q), C: round(r)}, api.Triple{A: round(s), B: round(t), C: round(c)}
}

// modelRow is K2, written out: Half by Half, from a number that may go on beyond the greatest one.
func modelRow(seed uint64, who int, from uint64, many int) []api.Triple {
	var row []api.Triple
	for k := range many {
		first, second := model(seed, round(new(big.Int).Add(without(from), big.NewInt(int64(k)))))
		if who == 0 {
			row = append(row, first)
		} else {
			row = append(row, second)
		}
	}
	return row
}

// P11.1 (K1): halves that are known, reckoned elsewhere; of the last i but one 5i is the greatest number, so that its others are those at 0 to 3.
func TestKnownHalves(t *testing.T) {
	for _, c := range []struct {
		seed, i       uint64
		first, second api.Triple
	}{
		{0, 0, api.Triple{A: 0xe220a8397b1dcdaf, B: 0x6e789e6aa1b965f4, C: 0x06c45d188009454f}, api.Triple{A: 0xf88bb8a8724c81ec, B: 0x1b39896a51a8749b, C: 0x2eed8d7bf0de3046}},
		{0, 1, api.Triple{A: 0x53cb9f0c747ea2ea, B: 0x2c829abe1f4532e1, C: 0xc584133ac916ab3c}, api.Triple{A: 0x3ee5789041c98ac3, B: 0xf3b8488c368cb0a6, C: 0x97d5b92512b6d1ff}},
		{1, 0, api.Triple{A: 0x910a2dec89025cc1, B: 0xbeeb8da1658eec67, C: 0xf893a2eefb32555e}, api.Triple{A: 0x71c18690ee42c90b, B: 0x71bb54d8d101b5b9, C: 0xeb701a4ffa1d7c22}},
		{7, 6, api.Triple{A: 0xf89c5aca8c448a78, B: 0x0de2b0ab6b89f8ac, C: 0x62184fdaeffa95c8}, api.Triple{A: 0x4857c52e70ded4d2, B: 0x8eb67bb2bf528e01, C: 0xb1b6ad1cac658b3a}},
		{top, 0, api.Triple{A: 0xe4d971771b652c20, B: 0xe99ff867dbf682c9, C: 0x382ff84cb27281e9}, api.Triple{A: 0x6d1db36ccba982d2, B: 0xb4a0472e578069ae, C: 0x37f0c4101833e895}},
		{0, top, api.Triple{A: 0x1ac88c3adb3504ff, B: 0x6061eff69a95c91c, C: 0x61bc8ea8124999d4}, api.Triple{A: 0x336503c6b835bec0, B: 0, C: 0xd59fdfb1b53fc610}},
		{top, top, api.Triple{A: 0x13e723632ca239f9, B: 0x8f33834013b31f7c, C: 0x738b10af171367ff}, api.Triple{A: 0xde0a564cbcd060c4, B: 0xb4d055fcf2cbbd7b, C: 0x4ec22ebb3a80505c}},
		{0, fifth, api.Triple{A: 0, B: 0xe220a8397b1dcdaf, C: 0x6e789e6aa1b965f4}, api.Triple{A: 0x06c45d188009454f, B: 0xf88bb8a8724c81ec, C: 0x570b725d95fcf1e1}},
		{0, fifth + 1, api.Triple{A: 0x1b39896a51a8749b, B: 0x53cb9f0c747ea2ea, C: 0x2c829abe1f4532e1}, api.Triple{A: 0xc584133ac916ab3c, B: 0x3ee5789041c98ac3, C: 0x919764f05af41c6a}},
	} {
		if first, second := Half(c.seed, 0, c.i), Half(c.seed, 1, c.i); first != c.first || second != c.second {
			t.Errorf("Half(%#x, 0 and 1, %#x): %#x and %#x, not %#x and %#x", c.seed, c.i, first, second, c.first, c.second)
		}
	}
}

// P11.1 (K1): what both parties have, at places of all sizes and at the edges, by many seeds, against K1 written out.
func TestHalf(t *testing.T) {
	for _, seed := range seeds() {
		for _, i := range places() {
			wantFirst, wantSecond := model(seed, i)
			if first, second := Half(seed, 0, i), Half(seed, 1, i); first != wantFirst || second != wantSecond {
				t.Fatalf("Half(%#x, 0 and 1, %#x): %#x and %#x, not %#x and %#x", seed, i, first, second, wantFirst, wantSecond)
			}
		}
	}
}

// P11.1 (K1): seeds of all sizes.
func TestHalfOfAllSeeds(t *testing.T) {
	for _, seed := range sizes() {
		for _, i := range []uint64{0, 1, 6, fifth, fifth + 1, seed, top - seed, top} {
			wantFirst, wantSecond := model(seed, i)
			if first, second := Half(seed, 0, i), Half(seed, 1, i); first != wantFirst || second != wantSecond {
				t.Fatalf("Half(%#x, 0 and 1, %#x): %#x and %#x, not %#x and %#x", seed, i, first, second, wantFirst, wantSecond)
			}
		}
	}
}

// P11.1 (K1, K2): every other number than 0 is taken as party 1.
func TestOthersArePartyOne(t *testing.T) {
	for _, seed := range seeds() {
		for _, i := range places() {
			_, want := model(seed, i)
			for _, who := range others() {
				if got := Half(seed, who, i); got != want {
					t.Fatalf("Half(%#x, %d, %#x): %#x, not %#x", seed, who, i, got, want)
				}
			}
		}
		for _, who := range others() {
			if got, want := Row(seed, who, top, 3), modelRow(seed, 1, top, 3); !slices.Equal(got, want) {
				t.Fatalf("Row(%#x, %d, ..): %#x, not %#x", seed, who, got, want)
			}
		}
	}
}

// P11.2: the sum of both Cs is the product of the sum of both As and the sum of both Bs, for seeds and places of all sizes.
func TestProduct(t *testing.T) {
	for _, seed := range sizes() {
		for _, i := range places() {
			first, second := Half(seed, 0, i), Half(seed, 1, i)
			want := product(without(first.A), without(second.A), without(first.B), without(second.B))
			if got := new(big.Int).Add(without(first.C), without(second.C)); round(got) != round(want) {
				t.Fatalf("seed %#x, %#x: %#x and %#x", seed, i, first, second)
			}
		}
	}
}

// P11.2: so it is with both rows, triple by triple.
func TestProductsOfRows(t *testing.T) {
	for _, seed := range seeds() {
		for _, from := range []uint64{0, 1, fifth - 9, top - 9, 1 << 63} {
			first, second := Row(seed, 0, from, api.MaxRow), Row(seed, 1, from, api.MaxRow)
			for k := range api.MaxRow {
				a, b := first[k], second[k]
				if (a.A+b.A)*(a.B+b.B) != a.C+b.C {
					t.Fatalf("seed %#x, from %#x, at %d: %#x and %#x", seed, from, k, a, b)
				}
			}
		}
	}
}

// P11.1 (K2): what a row has, against K2 written out, for both parties; from numbers from which it goes on beyond the greatest one to 0 too.
func TestRow(t *testing.T) {
	for _, seed := range []uint64{0, 1, 7, top} {
		for _, from := range []uint64{0, 1, 3, fifth - 2, 1<<32 - 3, 1<<63 - 2, top - 5, top - 1, top} {
			for _, who := range []int{0, 1} {
				for _, many := range manies() {
					if got, want := Row(seed, who, from, many), modelRow(seed, who, from, many); !slices.Equal(got, want) {
						t.Fatalf("Row(%#x, %d, %#x, %d)", seed, who, from, many)
					}
				}
			}
		}
	}
}

// P11.1 (K2): a row is Half by Half, for every number of a party, and from every place.
func TestRowIsHalves(t *testing.T) {
	for _, seed := range seeds() {
		for _, from := range places() {
			for _, who := range []int{0, 1, 2, -1, math.MaxInt, math.MinInt} {
				const many = 12
				row := Row(seed, who, from, many)
				if len(row) != many {
					t.Fatalf("Row(%#x, %d, %#x, %d): %d", seed, who, from, many, len(row))
				}
				for k := range uint64(many) {
					if want := Half(seed, who, from+k); row[k] != want {
						t.Fatalf("Row(%#x, %d, %#x, ..), at %d: %#x, not %#x", seed, who, from, k, row[k], want)
					}
				}
			}
		}
	}
}

// P11.1 (K2): none, if many is below 1, or above MaxRow.
func TestNoRow(t *testing.T) {
	for _, seed := range seeds() {
		for _, from := range edges() {
			for _, who := range append(others(), 0) {
				for _, many := range noRow() {
					if got := Row(seed, who, from, many); len(got) != 0 {
						t.Fatalf("Row(%#x, %d, %#x, %d): %d", seed, who, from, many, len(got))
					}
				}
			}
		}
	}
}

// P11.3: a row is its parts, wherever it is cut; from where it goes on at 0 too.
func TestRowIsItsParts(t *testing.T) {
	const many = 40
	for _, seed := range seeds() {
		for _, from := range []uint64{0, 1, 1 << 40, fifth - 7, top - many, top - many + 1, top - 20, top} {
			for _, who := range []int{0, 1, -1} {
				whole := Row(seed, who, from, many)
				for cut := range many + 1 {
					parts := slices.Concat(Row(seed, who, from, cut), Row(seed, who, from+uint64(cut), many-cut))
					if len(whole) != many || !slices.Equal(parts, whole) {
						t.Fatalf("Row(%#x, %d, %#x, %d), cut at %d", seed, who, from, many, cut)
					}
				}
			}
		}
	}
}

// P11.3: so is the longest row, cut in three at places of all sizes.
func TestLongestRowIsItsParts(t *testing.T) {
	for _, seed := range []uint64{0, 1, top} {
		for _, from := range []uint64{0, top - 2000} {
			for _, who := range []int{0, 1} {
				whole := Row(seed, who, from, api.MaxRow)
				for _, cut := range []int{0, 1, 2, 255, 256, 2000, 2001, 2002, api.MaxRow / 2, api.MaxRow - 1, api.MaxRow} {
					rest := (api.MaxRow - cut) / 3
					parts := slices.Concat(
						Row(seed, who, from, cut),
						Row(seed, who, from+uint64(cut), rest),
						Row(seed, who, from+uint64(cut+rest), api.MaxRow-cut-rest))
					if len(whole) != api.MaxRow || !slices.Equal(parts, whole) {
						t.Fatalf("Row(%#x, %d, %#x, ..), cut at %d and %d", seed, who, from, cut, cut+rest)
					}
				}
			}
		}
	}
}

// P3: what a row is hangs on its arguments alone, and is new memory, its spare room too: no two rows share any.
func TestAnswersAreNew(t *testing.T) {
	first := manyRows()
	var want [][]api.Triple
	for _, row := range first {
		want = append(want, slices.Clone(row))
	}
	apart(t, append(first, manyRows()...))
	for i, row := range manyRows() {
		if !slices.Equal(row, want[i]) {
			t.Errorf("row %d is another one when it is called again", i)
		}
	}
}

// manyRows are rows of all parties and lengths, and of none.
func manyRows() [][]api.Triple {
	var rows [][]api.Triple
	for _, who := range []int{0, 1, 2} {
		for _, many := range append(manies(), noRow()...) {
			rows = append(rows, Row(7, who, 3, many))
		}
	}
	return rows
}

// P3: nor does a half hang on the calls ahead of it.
func TestHalfIsTheSame(t *testing.T) {
	var want []api.Triple
	for turn := range 2 {
		i := 0
		for _, seed := range seeds() {
			for _, at := range edges() {
				for _, who := range []int{0, 1} {
					got := Half(seed, who, at)
					if turn == 0 {
						want = append(want, got)
					} else if got != want[i] {
						t.Errorf("Half(%#x, %d, %#x): %#x, then %#x", seed, who, at, want[i], got)
					}
					i++
				}
			}
		}
	}
}

// apart writes a triple of its own all over each row, its spare room too, and looks whether all are still there.
func apart(t *testing.T, rows [][]api.Triple) {
	t.Helper()
	own := func(i int) api.Triple { n := uint64(i); return api.Triple{A: n, B: n + 1, C: n + 2} }
	for i, row := range rows {
		row = row[:cap(row)]
		for k := range row {
			row[k] = own(i)
		}
	}
	for i, row := range rows {
		row = row[:cap(row)]
		if !slices.Equal(row, slices.Repeat([]api.Triple{own(i)}, len(row))) {
			t.Errorf("row %d of %d shares memory", i, len(rows))
		}
	}
}
