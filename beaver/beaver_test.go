package beaver

import (
	"math"
	"math/big"
	"slices"
	"testing"

	"symbolon/api"
	"symbolon/ring"
	"symbolon/share"
	"symbolon/triple"
)

const top = 1<<64 - 1

// sizes are numbers of all lengths in bits, and those beside them; both ends of uint64 among them.
func sizes() []uint64 {
	list := []uint64{0, 6, 0x5555555555555555, 0xaaaaaaaaaaaaaaaa, 0x9e3779b97f4a7c15}
	for k := range 64 {
		list = append(list, 1<<k, 1<<k-1, 1<<k+1, top-1<<k, top<<k)
	}
	slices.Sort(list)
	return slices.Compact(list)
}

// some are fewer, for where each is held against each.
func some() []uint64 {
	return []uint64{0, 1, 2, 77, 1 << 32, 0x123456789abcdef, 1<<63 - 1, 1 << 63, top - 1, top}
}

// few are fewer still, for where five are held against each other.
func few() []uint64 { return []uint64{0, 1, 3, 1<<32 + 1, 1 << 63, top} }

// others are all kinds of numbers of a party that is not 0.
func others() []int {
	return []int{1, 2, 3, 9, -1, -2, 256, -256, 1 << 16, 1 << 31, 1 << 32, -1 << 32, 1<<32 + 1, 1 << 62, math.MaxInt - 1, math.MaxInt, math.MinInt, math.MinInt + 1}
}

// lengths are those of rows, beyond MaxRow too, as the chapter names no limit.
func lengths() []int { return []int{0, 1, 2, 3, 64, api.MaxRow, api.MaxRow + 1} }

// wide is a number without a bound.
func wide(n uint64) *big.Int { return new(big.Int).SetUint64(n) }

// round is what is left of a number without a bound, at 2^64.
func round(n *big.Int) uint64 {
	return new(big.Int).Mod(n, new(big.Int).Lsh(big.NewInt(1), 64)).Uint64()
}

// less is a difference, which may be below 0.
func less(x, y uint64) uint64 { return round(new(big.Int).Sub(wide(x), wide(y))) }

// total is the sum of numbers without a bound.
func total(numbers ...*big.Int) *big.Int {
	sum := new(big.Int)
	for _, n := range numbers {
		sum.Add(sum, n)
	}
	return sum
}

// product is that of two numbers, without a bound.
func product(x, y uint64) *big.Int { return new(big.Int).Mul(wide(x), wide(y)) }

// modelOpen, modelSum and modelClose are L1, written out in numbers without a bound.
func modelOpen(x, y uint64, t api.Triple) api.Open {
	return api.Open{D: less(x, t.A), E: less(y, t.B)}
}

func modelSum(a, b api.Open) api.Open {
	return api.Open{D: round(total(wide(a.D), wide(b.D))), E: round(total(wide(a.E), wide(b.E)))}
}

func modelClose(who int, o api.Open, t api.Triple) uint64 {
	part := total(wide(t.C), product(o.D, t.B), product(o.E, t.A))
	if who == 0 {
		part = total(part, product(o.D, o.E))
	}
	return round(part)
}

// holdOpen holds Open against L1.
func holdOpen(t *testing.T, x, y uint64, m api.Triple) {
	t.Helper()
	if got, want := Open(x, y, m), modelOpen(x, y, m); got != want {
		t.Fatalf("Open(%#x, %#x, %#x): %#x, not %#x", x, y, m, got, want)
	}
}

// holdSum holds Sum against L1.
func holdSum(t *testing.T, a, b api.Open) {
	t.Helper()
	if got, want := Sum(a, b), modelSum(a, b); got != want {
		t.Fatalf("Sum(%#x, %#x): %#x, not %#x", a, b, got, want)
	}
}

// holdClose holds Close against L1, for both parties.
func holdClose(t *testing.T, o api.Open, m api.Triple) {
	t.Helper()
	for who := range 2 {
		if got, want := Close(who, o, m), modelClose(who, o, m); got != want {
			t.Fatalf("Close(%d, %#x, %#x): %#x, not %#x", who, o, m, got, want)
		}
	}
}

// P12.1 (L1): what is known of Open; the example of the chapter first.
func TestKnownOpens(t *testing.T) {
	for _, c := range []struct {
		x, y uint64
		m    api.Triple
		want api.Open
	}{
		{5, 7, api.Triple{A: 2, B: 3}, api.Open{D: 3, E: 4}},
		{5, 7, api.Triple{A: 2, B: 3, C: top}, api.Open{D: 3, E: 4}},
		{0, 0, api.Triple{}, api.Open{}},
		{0, 0, api.Triple{A: 1, B: top}, api.Open{D: top, E: 1}},
		{top, 0, api.Triple{A: top, B: 1 << 63, C: 9}, api.Open{D: 0, E: 1 << 63}},
		{1, 1 << 63, api.Triple{A: 2, B: 1, C: 2}, api.Open{D: top, E: 1<<63 - 1}},
		{3, 4, api.Triple{A: 4, B: 3, C: 12}, api.Open{D: top, E: 1}},
	} {
		if got := Open(c.x, c.y, c.m); got != c.want {
			t.Errorf("Open(%#x, %#x, %#x): %#x, not %#x", c.x, c.y, c.m, got, c.want)
		}
	}
}

// P12.1 (L1): what is known of Sum.
func TestKnownSums(t *testing.T) {
	for _, c := range []struct{ a, b, want api.Open }{
		{api.Open{}, api.Open{}, api.Open{}},
		{api.Open{D: 3, E: 4}, api.Open{D: 10, E: 200}, api.Open{D: 13, E: 204}},
		{api.Open{D: top, E: 1}, api.Open{D: 1, E: top - 1}, api.Open{D: 0, E: top}},
		{api.Open{D: top, E: top}, api.Open{D: top, E: 5}, api.Open{D: top - 1, E: 4}},
		{api.Open{D: 1 << 63, E: 1 << 63}, api.Open{D: 1 << 63, E: 1<<63 - 1}, api.Open{D: 0, E: top}},
	} {
		if got := Sum(c.a, c.b); got != c.want {
			t.Errorf("Sum(%#x, %#x): %#x, not %#x", c.a, c.b, got, c.want)
		}
	}
}

// P12.1 (L1): what is known of Close; party 0 first, then party 1.
func TestKnownCloses(t *testing.T) {
	for _, c := range []struct {
		o             api.Open
		m             api.Triple
		first, second uint64
	}{
		{api.Open{}, api.Triple{}, 0, 0},
		{api.Open{}, api.Triple{A: 7, B: 9, C: 5}, 5, 5},
		{api.Open{D: 6, E: 4}, api.Triple{A: 2, B: 3, C: 1}, 51, 27},
		{api.Open{D: 3, E: 5}, api.Triple{}, 15, 0},
		{api.Open{D: 10}, api.Triple{A: 7, B: 2}, 20, 20},
		{api.Open{E: 10}, api.Triple{A: 7, B: 2}, 70, 70},
		{api.Open{D: top, E: top}, api.Triple{A: 1, B: 2, C: 3}, 1, 0},
		{api.Open{D: 1 << 32, E: 1 << 32}, api.Triple{A: 1 << 31, B: 1 << 32, C: top}, 1<<63 - 1, 1<<63 - 1},
		{api.Open{D: 1 << 63, E: 3}, api.Triple{A: 2, B: 1, C: 1 << 63}, 1<<63 + 6, 6},
	} {
		if first, second := Close(0, c.o, c.m), Close(1, c.o, c.m); first != c.first || second != c.second {
			t.Errorf("Close(0 and 1, %#x, %#x): %#x and %#x, not %#x and %#x", c.o, c.m, first, second, c.first, c.second)
		}
	}
}

// P12.1 (L1): each number of all sizes less each, as the first and as the second, against L1 written out.
func TestOpen(t *testing.T) {
	all := sizes()
	for i, x := range all {
		for k, a := range all {
			y, b, c := all[(i+k)%len(all)], all[(3*i+k)%len(all)], all[(i+5*k)%len(all)]
			holdOpen(t, x, y, api.Triple{A: a, B: b, C: c})
			holdOpen(t, y, x, api.Triple{A: b, B: a, C: c})
		}
	}
}

// P12.1 (L1): each number of all sizes and each, summed up.
func TestSum(t *testing.T) {
	all := sizes()
	for i, d := range all {
		for k, n := range all {
			e, m := all[(i+k)%len(all)], all[(3*i+k)%len(all)]
			holdSum(t, api.Open{D: d, E: e}, api.Open{D: n, E: m})
			holdSum(t, api.Open{D: e, E: d}, api.Open{D: m, E: n})
		}
	}
}

// P12.1 (L1): each pair of numbers of all sizes that are multiplied: D and B, E and A, D and E; the triples are right or not.
func TestClose(t *testing.T) {
	all := sizes()
	for i, n := range all {
		for k, m := range all {
			p, q, r := all[(i+k)%len(all)], all[(3*i+k)%len(all)], all[(i+5*k)%len(all)]
			holdClose(t, api.Open{D: n, E: p}, api.Triple{A: q, B: m, C: r})
			holdClose(t, api.Open{D: p, E: n}, api.Triple{A: m, B: q, C: r})
			holdClose(t, api.Open{D: n, E: m}, api.Triple{A: p, B: q, C: r})
			holdClose(t, api.Open{D: n, E: m}, api.Triple{A: p, B: q, C: p * q})
		}
	}
}

// P12.1 (L1): all five numbers held against each other, at the edges.
func TestEdges(t *testing.T) {
	for _, a := range few() {
		for _, b := range few() {
			for _, c := range few() {
				m := api.Triple{A: a, B: b, C: c}
				for _, x := range few() {
					for _, y := range few() {
						holdOpen(t, x, y, m)
						holdClose(t, api.Open{D: x, E: y}, m)
					}
				}
			}
		}
	}
}

// P12.1 (L1, L2): every other number than 0 is taken as party 1.
func TestOthersArePartyOne(t *testing.T) {
	for _, d := range some() {
		for _, e := range some() {
			for _, m := range []api.Triple{{}, {A: 2, B: 3, C: 1}, {A: top, B: 1 << 63, C: 77}, {A: d, B: e, C: d * e}} {
				o := api.Open{D: d, E: e}
				want := modelClose(1, o, m)
				for _, who := range others() {
					if got := Close(who, o, m); got != want {
						t.Fatalf("Close(%d, %#x, %#x): %#x, not %#x", who, o, m, got, want)
					}
					if got := Closes(who, []api.Open{o, o}, []api.Triple{m, m}); !slices.Equal(got, []uint64{want, want}) {
						t.Fatalf("Closes(%d, twice %#x, %#x): %#x, not %#x", who, o, m, got, want)
					}
				}
			}
		}
	}
}

// spread is a row of numbers of all sizes, which differs by k.
func spread(k uint64, many int) []uint64 {
	row := make([]uint64, many)
	for i := range many {
		row[i] = ((uint64(i)+1)*k + k) * 0xbf58476d1ce4e5b9 >> (uint64(i) * k % 64)
	}
	return row
}

// masks are a row of triples, none of them right but by chance.
func masks(k uint64, many int) []api.Triple {
	a, b, c := spread(k, many), spread(k+2, many), spread(k+4, many)
	row := make([]api.Triple, many)
	for i := range many {
		row[i] = api.Triple{A: a[i], B: b[i], C: c[i]}
	}
	return row
}

// said are a row of what is opened.
func said(k uint64, many int) []api.Open {
	d, e := spread(k, many), spread(k+2, many)
	row := make([]api.Open, many)
	for i := range many {
		row[i] = api.Open{D: d[i], E: e[i]}
	}
	return row
}

// holdOpens holds Opens against L2: how many there are, and each against L1.
func holdOpens(t *testing.T, x, y []uint64, m []api.Triple) {
	t.Helper()
	got := Opens(x, y, m)
	if len(got) != min(len(x), len(y), len(m)) {
		t.Fatalf("Opens of %d, %d and %d: %d", len(x), len(y), len(m), len(got))
	}
	for i, o := range got {
		if want := modelOpen(x[i], y[i], m[i]); o != want {
			t.Fatalf("Opens of %d, %d and %d, at %d: %#x, not %#x", len(x), len(y), len(m), i, o, want)
		}
	}
}

// holdCloses holds Closes against L2, for both parties.
func holdCloses(t *testing.T, o []api.Open, m []api.Triple) {
	t.Helper()
	for who := range 2 {
		got := Closes(who, o, m)
		if len(got) != min(len(o), len(m)) {
			t.Fatalf("Closes(%d) of %d and %d: %d", who, len(o), len(m), len(got))
		}
		for i, n := range got {
			if want := modelClose(who, o[i], m[i]); n != want {
				t.Fatalf("Closes(%d) of %d and %d, at %d: %#x, not %#x", who, len(o), len(m), i, n, want)
			}
		}
	}
}

// P12.1 (L2): rows that are known, which differ from place to place.
func TestKnownRows(t *testing.T) {
	x, y := []uint64{5, 0, 1 << 63}, []uint64{7, 1, 2, 9}
	m := []api.Triple{{A: 2, B: 3, C: 1}, {A: 1, B: 1}, {A: 1, B: 3, C: 5}, {A: 4}, {A: 5}}
	opens := []api.Open{{D: 3, E: 4}, {D: top, E: 0}, {D: 1<<63 - 1, E: top}}
	if got := Opens(x, y, m); !slices.Equal(got, opens) {
		t.Errorf("Opens: %#x, not %#x", got, opens)
	}
	if got, want := Closes(0, opens, m), []uint64{1 + 9 + 8 + 12, top, 2}; !slices.Equal(got, want) {
		t.Errorf("Closes(0, ..): %#x, not %#x", got, want)
	}
	if got, want := Closes(1, opens, m), []uint64{1 + 9 + 8, top, 1<<63 + 1}; !slices.Equal(got, want) {
		t.Errorf("Closes(1, ..): %#x, not %#x", got, want)
	}
}

// P12.1 (L2): as many as the shortest row has, whichever it is: place by place what Open and Close make of them.
func TestRows(t *testing.T) {
	for _, first := range lengths() {
		for _, second := range lengths() {
			for _, third := range lengths() {
				holdOpens(t, spread(3, first), spread(5, second), masks(7, third))
			}
			holdCloses(t, said(3, first), masks(7, second))
		}
	}
	holdOpens(t, spread(3, 1<<17), spread(5, 1<<17), masks(7, 1<<17))
	holdCloses(t, said(3, 1<<17), masks(7, 1<<17))
}

// P12.1 (L2): short rows of each length at all, each with spare room behind it that is not gone into.
func TestShortRows(t *testing.T) {
	for first := range 6 {
		for second := range 6 {
			for third := range 6 {
				holdOpens(t, spread(3, 9)[:first], spread(5, 9)[:second], masks(7, 9)[:third])
			}
			holdCloses(t, said(3, 9)[:first], masks(7, 9)[:second])
		}
	}
}

// P12.1 (L2): none of rows of none, nil or not.
func TestNoRows(t *testing.T) {
	x, m, o := spread(3, 4), masks(5, 4), said(7, 4)
	for i, got := range [][]api.Open{
		Opens(nil, nil, nil), Opens(nil, x, m), Opens(x, nil, m), Opens(x, x, nil), Opens(x[:0], x, m), Opens(x, x[:0], m), Opens(x, x, m[:0]),
	} {
		if len(got) != 0 {
			t.Errorf("Opens, %d: %#x", i, got)
		}
	}
	for _, who := range append(others(), 0) {
		for i, got := range [][]uint64{
			Closes(who, nil, nil), Closes(who, nil, m), Closes(who, o, nil), Closes(who, o[:0], m), Closes(who, o, m[:0]),
		} {
			if len(got) != 0 {
				t.Errorf("Closes(%d, ..), %d: %#x", who, i, got)
			}
		}
	}
}

// holdExact has both parties open and close their parts of x and y with a dealer's triple, and looks whether theirs are parts of the product; the parts are first, and what is left.
func holdExact(t *testing.T, x, y uint64, first [2]uint64, a, b api.Triple) {
	t.Helper()
	ours, theirs := Open(first[0], first[1], a), Open(less(x, first[0]), less(y, first[1]), b)
	o := Sum(ours, theirs)
	want := round(product(x, y))
	if got := Close(0, o, a) + Close(1, o, b); got != want {
		t.Fatalf("%#x times %#x, parts from %#x, triple %#x and %#x: %#x, not %#x", x, y, first, a, b, got, want)
	}
	if again := Sum(theirs, ours); again != o {
		t.Fatalf("both opened, in either order: %#x and %#x", o, again)
	}
}

// P12.2: two numbers of all sizes, by a triple of their own.
func TestExact(t *testing.T) {
	all := sizes()
	for i, x := range all {
		for k, y := range all {
			at := uint64(i*len(all) + k)
			first := [2]uint64{all[(i+k)%len(all)], all[(3*i+k)%len(all)]}
			holdExact(t, x, y, first, triple.Half(11, 0, at), triple.Half(11, 1, at))
		}
	}
}

// P12.2: the same numbers in parts of all kinds, by triples of seeds and places of all sizes.
func TestExactOfAllParts(t *testing.T) {
	for _, seed := range []uint64{0, 1, 1 << 63, top} {
		for _, at := range []uint64{0, 1, top/5 - 1, top / 5, top/5 + 1, 1 << 63, top} {
			a, b := triple.Half(seed, 0, at), triple.Half(seed, 1, at)
			for _, x := range some() {
				for _, y := range some() {
					for _, first := range [][2]uint64{{0, 0}, {x, y}, {x, 0}, {0, y}, {1, top}, {1 << 63, x + y}, {a.A, a.B}, {y, x}, {a.C, b.C}} {
						holdExact(t, x, y, first, a, b)
					}
				}
			}
		}
	}
}

// P12.2: so it is with triples that no dealer's seed makes, as long as they are right: of noughts, of one party alone.
func TestExactWithAnyTriple(t *testing.T) {
	for _, p := range few() {
		for _, q := range few() {
			c := round(product(p, q))
			for _, m := range [][2]api.Triple{
				{{A: p, B: q, C: c}, {}},
				{{}, {A: p, B: q, C: c}},
				{{A: p, C: 5}, {B: q, C: less(c, 5)}},
				{{B: q, C: top}, {A: p, C: less(c, top)}},
			} {
				for _, x := range some() {
					for _, y := range some() {
						holdExact(t, x, y, [2]uint64{y, 77}, m[0], m[1])
					}
				}
			}
		}
	}
}

// P12.2: whole rows, of as many triples as there are at most: what both close, place by place, are parts of the products.
func TestExactRows(t *testing.T) {
	for _, many := range []int{0, 1, 2, 64, api.MaxRow} {
		x, y := spread(3, many), spread(0x94d049bb133111eb, many)
		firstX, secondX := share.Split(8, x)
		firstY, secondY := share.Split(9, y)
		a, b := triple.Row(5, 0, 3, many), triple.Row(5, 1, 3, many)
		ours, theirs := Opens(firstX, firstY, a), Opens(secondX, secondY, b)
		o := make([]api.Open, many)
		for i := range many {
			o[i] = Sum(ours[i], theirs[i])
		}
		want := ring.Mul(x, y)
		for _, who := range append(others(), 1) {
			if got := share.Join(Closes(0, o, a), Closes(who, o, b)); !slices.Equal(got, want) {
				t.Fatalf("%d numbers, parties 0 and %d", many, who)
			}
		}
	}
}

// P12.2: it needs the sum of what both opened, and each party its own part: otherwise it is not the product.
func TestNotExact(t *testing.T) {
	a, b := triple.Half(5, 0, 2), triple.Half(5, 1, 2)
	ours, theirs := Open(3, 4, a), Open(5, 6, b)
	o := Sum(ours, theirs)
	if got := Close(0, o, a) + Close(1, o, b); got != 8*10 {
		t.Fatalf("%#x", got)
	}
	for i, got := range []uint64{
		Close(0, ours, a) + Close(1, theirs, b),
		Close(0, o, a) + Close(0, o, b),
		Close(1, o, a) + Close(1, o, b),
		Close(0, o, a) + Close(1, o, a),
		Close(0, o, a),
	} {
		if got == 8*10 {
			t.Errorf("%d: %#x", i, got)
		}
	}
}

// under is the triple with which two numbers are opened as o; its C may be any.
func under(x, y uint64, o api.Open, c uint64) api.Triple {
	return api.Triple{A: less(x, o.D), B: less(y, o.E), C: c}
}

// P12.3: what two numbers are opened as any other two are, with another triple.
func TestMasked(t *testing.T) {
	for _, x := range some() {
		for _, y := range some() {
			for _, m := range []api.Triple{{}, {A: 2, B: 3, C: 6}, {A: x, B: y, C: 1}, {A: 1 << 63, B: top, C: 1 << 63}, triple.Half(5, 0, x), triple.Half(5, 1, y)} {
				o := Open(x, y, m)
				for _, otherX := range some() {
					for _, otherY := range some() {
						another := under(otherX, otherY, o, m.C)
						if got := Open(otherX, otherY, another); got != o {
							t.Fatalf("%#x and %#x with %#x: %#x; %#x and %#x with %#x: %#x", x, y, m, o, otherX, otherY, another, got)
						}
						if unlike := otherX != x || otherY != y; unlike == (another == m) {
							t.Fatalf("%#x and %#x, %#x and %#x: triples %#x and %#x", x, y, otherX, otherY, m, another)
						}
					}
				}
			}
		}
	}
}

// P12.3: each two numbers that may be opened stand for two numbers of all sizes, with a triple whose third number does not matter.
func TestAllThatIsOpened(t *testing.T) {
	all := sizes()
	for i, d := range all {
		for k, x := range all {
			e, y, c := all[(i+k)%len(all)], all[(3*i+k)%len(all)], all[(i+5*k)%len(all)]
			o := api.Open{D: d, E: e}
			for _, third := range []uint64{0, c, top} {
				if got := Open(x, y, under(x, y, o, third)); got != o {
					t.Fatalf("%#x and %#x are opened as %#x, not %#x", x, y, got, o)
				}
			}
		}
	}
}

// P12.3: with one triple unlike numbers are opened unlike: each of the two by its own, whatever the other one is.
func TestUnlikeAreOpenedUnlike(t *testing.T) {
	for _, m := range []api.Triple{{}, {A: 2, B: 3, C: 6}, {A: 1 << 63, B: top, C: 1 << 63}, {A: top, B: top, C: 1}, triple.Half(5, 0, 1), triple.Half(5, 1, 1)} {
		opened := map[api.Open][2]uint64{}
		firsts, seconds := map[uint64]uint64{}, map[uint64]uint64{}
		for _, x := range sizes() {
			for _, y := range sizes() {
				o := Open(x, y, m)
				if other, two := opened[o]; two {
					t.Fatalf("with %#x %#x and %#x, and %#x, are opened as %#x", m, x, y, other, o)
				}
				opened[o] = [2]uint64{x, y}
				if other, two := firsts[o.D]; two && other != x {
					t.Fatalf("with %#x the first ones %#x and %#x are opened as %#x", m, x, other, o.D)
				}
				if other, two := seconds[o.E]; two && other != y {
					t.Fatalf("with %#x the second ones %#x and %#x are opened as %#x", m, y, other, o.E)
				}
				firsts[o.D], seconds[o.E] = x, y
			}
		}
		if len(firsts) != len(sizes()) || len(seconds) != len(sizes()) {
			t.Errorf("with %#x: what a number is opened as hangs on the other one", m)
		}
	}
}

// fill lays one thing everywhere in a row, in its spare room too.
func fill[T any](row []T, thing T) {
	row = row[:cap(row)]
	for i := range row {
		row[i] = thing
	}
}

// apart lays a thing of its own into each row, and looks whether all are still there.
func apart[T comparable](t *testing.T, rows [][]T, own func(i int) T) {
	t.Helper()
	for i, row := range rows {
		fill(row, own(i))
	}
	for i, row := range rows {
		row = row[:cap(row)]
		if !slices.Equal(row, slices.Repeat([]T{own(i)}, len(row))) {
			t.Errorf("row %d of %d shares memory", i, len(rows))
		}
	}
}

// P3: rows that are handed in are not changed, nor their spare room; nor are they by one who writes over what came out.
func TestArgumentsStay(t *testing.T) {
	for _, first := range lengths() {
		for _, second := range lengths() {
			for _, third := range lengths() {
				x, y, m, o := spread(3, first+8), spread(5, second+8), masks(7, third+8), said(9, first+8)
				wantX, wantY, wantM, wantO := slices.Clone(x), slices.Clone(y), slices.Clone(m), slices.Clone(o)
				fill(Opens(x[:first], y[:second], m[:third]), api.Open{D: 0xdead, E: 0xbeef})
				fill(Closes(0, o[:first], m[:third]), 0xdeadbeef)
				fill(Closes(1, o[:first], m[:third]), 0xdeadbeef)
				if !slices.Equal(x, wantX) || !slices.Equal(y, wantY) || !slices.Equal(m, wantM) || !slices.Equal(o, wantO) {
					t.Fatalf("rows of %d, %d and %d are changed", first, second, third)
				}
			}
		}
	}
}

// P3: what comes out is new memory, its spare room too; nor does it hang on the calls ahead of it, nor on what is handed in once the call has answered.
func TestAnswersAreNew(t *testing.T) {
	for _, many := range lengths() {
		x, y, m, o := spread(3, many), spread(5, many), masks(7, many), said(9, many)
		opens, closes := [][]api.Open{}, [][]uint64{x, y}
		for range 2 {
			opens = append(opens, Opens(x, y, m))
			closes = append(closes, Closes(0, o, m), Closes(1, o, m))
		}
		wantOpens, wantFirst, wantSecond := slices.Clone(opens[0]), slices.Clone(closes[2]), slices.Clone(closes[3])
		apart(t, append(opens, o), func(i int) api.Open { return api.Open{D: uint64(i), E: uint64(i) + 1} })
		apart(t, closes, func(i int) uint64 { return uint64(i) + 9 })

		x, y, m, o = spread(3, many), spread(5, many), masks(7, many), said(9, many)
		kept, keptFirst, keptSecond := Opens(x, y, m), Closes(0, o, m), Closes(1, o, m)
		fill(x, 1)
		fill(y, 2)
		fill(m, api.Triple{A: 1, B: 2, C: 3})
		fill(o, api.Open{D: 1, E: 2})
		if !slices.Equal(kept, wantOpens) || !slices.Equal(keptFirst, wantFirst) || !slices.Equal(keptSecond, wantSecond) {
			t.Errorf("%d numbers: rows are others when they are called again", many)
		}
	}
}

// P3: one and the same row may be handed in at several places.
func TestOneRowAtSeveralPlaces(t *testing.T) {
	for _, many := range lengths() {
		x, m := spread(3, many), masks(7, many)
		holdOpens(t, x, x, m)
		if !slices.Equal(x, spread(3, many)) || !slices.Equal(m, masks(7, many)) {
			t.Errorf("%d numbers are changed", many)
		}
	}
}

// P3: nor do Open, Sum and Close hang on the calls ahead of them.
func TestAnswersAreTheSame(t *testing.T) {
	type answer struct {
		open, sum     api.Open
		first, second uint64
	}
	var want []answer
	for turn := range 2 {
		i := 0
		for _, x := range some() {
			for _, y := range some() {
				m, o := api.Triple{A: y, B: x, C: 7}, api.Open{D: x, E: y}
				got := answer{Open(x, y, m), Sum(o, api.Open{D: y, E: x}), Close(0, o, m), Close(1, o, m)}
				if turn == 0 {
					want = append(want, got)
				} else if got != want[i] {
					t.Errorf("%#x and %#x: %#x, then %#x", x, y, want[i], got)
				}
				i++
			}
		}
	}
}
