package eval

import (
	"math"
	"math/big"
	"slices"
	"testing"

	"symbolon/api"
	"symbolon/check"
	"symbolon/plain"
	"symbolon/share"
	"symbolon/triple"
)

const top = 1<<64 - 1

func of(in api.Shape, layers ...api.Layer) api.Net { return api.Net{In: in, Layers: layers} }

func pic(c, h, w int) api.Shape { return api.Shape{C: c, H: h, W: w} }

func conv(out, size, step int) api.Layer {
	return api.Layer{Kind: api.Conv, Out: out, Size: size, Step: step}
}

func square() api.Layer { return api.Layer{Kind: api.Square} }

func pool(size int) api.Layer { return api.Layer{Kind: api.Pool, Size: size} }

func dense(out int) api.Layer { return api.Layer{Kind: api.Dense, Out: out} }

// seeds are both ends, and some in between.
func seeds() []uint64 { return []uint64{0, 1, top, 1 << 63, 0x9e3779b97f4a7c15} }

// others are all kinds of numbers of a party that is not 0.
func others() []int {
	return []int{1, 2, 3, 9, -1, -2, 256, -256, 1 << 16, 1 << 31, 1 << 32, -1 << 32, 1<<32 + 1, 1 << 62, math.MaxInt - 1, math.MaxInt, math.MinInt, math.MinInt + 1}
}

// outside are numbers of which none is 0 to many less 1, both ends of int among them.
func outside(many int) []int {
	return []int{-1, -2, -many - 1, many, many + 1, many + 128, 1000, 1 << 31, 1 << 32, 1<<32 + 1, 1 << 62, -1 << 32, -1 << 62, math.MaxInt - 1, math.MaxInt, math.MinInt, math.MinInt + 1}
}

// wrongs are rows of any number but so many: none at all, one less, one more, and far more.
func wrongs(many int) [][]uint64 {
	all := [][]uint64{make([]uint64, many+1), make([]uint64, 2*many+2), make([]uint64, 1100+many)}
	if many > 0 {
		all = append(all, nil, []uint64{}, make([]uint64, many-1), make([]uint64, many-1, many+5))
	}
	return all
}

// draw is a number below n, and what the next one is drawn from.
func draw(from *uint64, n int) int {
	*from = *from*6364136223846793005 + 1442695040888963407
	return int(*from >> 33 % uint64(n))
}

// numbers are so many: small ones, great ones, and those at which sums and products go round.
func numbers(from *uint64, many int) []uint64 {
	edges := []uint64{0, 1, 2, 3, 1 << 32, 1<<32 - 1, 1<<32 + 1, 1 << 63, 1<<63 - 1, 1<<63 + 1, top, top - 1}
	all := make([]uint64, many)
	for i := range all {
		switch draw(from, 3) {
		case 0:
			all[i] = edges[draw(from, len(edges))]
		case 1:
			all[i] = uint64(draw(from, 100))
		case 2:
			all[i] = uint64(draw(from, 1<<31))<<33 ^ uint64(draw(from, 1<<31))<<11 ^ uint64(draw(from, 1<<31))
		}
	}
	return all
}

// wide is a number without a bound.
func wide(n uint64) *big.Int { return new(big.Int).SetUint64(n) }

// round is what is left of a number without a bound, at 2^64.
func round(n *big.Int) uint64 {
	return new(big.Int).Mod(n, new(big.Int).Lsh(big.NewInt(1), 64)).Uint64()
}

// less is a difference, which may be below 0.
func less(x, y uint64) uint64 { return round(new(big.Int).Sub(wide(x), wide(y))) }

// plus is a sum without a bound.
func plus(x, y uint64) *big.Int { return new(big.Int).Add(wide(x), wide(y)) }

// sums are those of two rows, place by place.
func sums(a, b []uint64) []uint64 {
	all := make([]uint64, len(a))
	for i := range all {
		all[i] = round(plus(a[i], b[i]))
	}
	return all
}

// apart is how far one row is from another one, place by place.
func apart(a, b []uint64) []uint64 {
	all := make([]uint64, len(a))
	for i := range all {
		all[i] = less(a[i], b[i])
	}
	return all
}

// product is one of a stage's: the place that comes out, and the places of both numbers; of a Square both are that of x, and w is -1.
type product struct{ at, x, w int }

// leg is a stage of a network, written out: its layer, the number of its first gate, its products in order, how many numbers go into it, and how many come out of its layer.
type leg struct {
	layer, first int
	products     []product
	in, out      int
}

// windows are the products of a Conv whose first weight is w.
func windows(l api.Layer, in, out api.Shape, w int) []product {
	var all []product
	at := 0
	for o := range out.C {
		for y := range out.H {
			for x := range out.W {
				for c := range in.C {
					for r := range l.Size {
						for k := range l.Size {
							place := (c*in.H+y*l.Step+r)*in.W + x*l.Step + k
							all = append(all, product{at, place, w + ((o*in.C+c)*l.Size+r)*l.Size + k})
						}
					}
				}
				at++
			}
		}
	}
	return all
}

// many is how many numbers a picture has.
func many(s api.Shape) int { return s.C * s.H * s.W }

// shapes are those of a network that must be right.
func shapes(t *testing.T, n api.Net) []api.Shape {
	t.Helper()
	all, wrong := check.Shapes(n)
	if wrong != api.OK {
		t.Fatalf("%v is not right", n)
	}
	return all
}

// route is a network that must be right, written out: its stages, how many numbers it makes, how many weights it has.
type route struct {
	legs         []leg
	end, weights int
}

// way is the route of a network: products are laid out layer by layer, in the order of their gates.
func way(t *testing.T, n api.Net) route {
	t.Helper()
	all := shapes(t, n)
	r, first := route{end: many(all[len(n.Layers)])}, 0
	for i, l := range n.Layers {
		g := leg{layer: i, first: first, in: many(all[i]), out: many(all[i+1])}
		switch l.Kind {
		case api.Pool:
			continue
		case api.Conv:
			g.products = windows(l, all[i], all[i+1], r.weights)
			r.weights += l.Out * all[i].C * l.Size * l.Size
		case api.Square:
			for at := range g.in {
				g.products = append(g.products, product{at, at, -1})
			}
		case api.Dense:
			for at := range l.Out {
				for j := range g.in {
					g.products = append(g.products, product{at, j, r.weights + j})
				}
				r.weights += g.in
			}
		}
		r.legs, first = append(r.legs, g), first+len(g.products)
	}
	return r
}

// takes is how many numbers go into a stage.
func (r route) takes(stage int) int {
	if stage == len(r.legs) {
		return r.end
	}
	return r.legs[stage].in
}

// says is how many numbers a stage's line has.
func (r route) says(stage int) int {
	if stage == len(r.legs) {
		return r.end
	}
	return 2 * len(r.legs[stage].products)
}

// pooled is what comes of a picture through all Pools from layer i on, block by block: each number goes to the place of its block.
func pooled(t *testing.T, n api.Net, i int, x []uint64) []uint64 {
	t.Helper()
	all := shapes(t, n)
	for ; i < len(n.Layers) && n.Layers[i].Kind == api.Pool; i++ {
		in, size := all[i], n.Layers[i].Size
		y := make([]uint64, many(in)/(size*size))
		for place, number := range x {
			channel, row, column := place/(in.H*in.W), place/in.W%in.H, place%in.W
			block := (channel*(in.H/size)+row/size)*(in.W/size) + column/size
			y[block] = round(plus(y[block], number))
		}
		x = y
	}
	return x
}

// modelLine is M2, written out.
func (r route) modelLine(who int, seed uint64, stage int, x, w []uint64) []uint64 {
	if stage == len(r.legs) {
		return x
	}
	var line []uint64
	g := r.legs[stage]
	for k, p := range g.products {
		mask := triple.Half(seed, who, uint64(g.first+k))
		other := x[p.x]
		if p.w != -1 {
			other = w[p.w]
		}
		line = append(line, less(x[p.x], mask.A), less(other, mask.B))
	}
	return line
}

// modelNext is M3, written out.
func (r route) modelNext(t *testing.T, n api.Net, who int, seed uint64, stage int, mine, theirs []uint64) []uint64 {
	t.Helper()
	if stage == len(r.legs) {
		return sums(mine, theirs)
	}
	g := r.legs[stage]
	behind := make([]*big.Int, g.out)
	for at := range behind {
		behind[at] = new(big.Int)
	}
	for k, p := range g.products {
		mask := triple.Half(seed, who, uint64(g.first+k))
		d, e := plus(mine[2*k], theirs[2*k]), plus(mine[2*k+1], theirs[2*k+1])
		sum := behind[p.at]
		sum.Add(sum, wide(mask.C))
		sum.Add(sum, new(big.Int).Mul(d, wide(mask.B)))
		sum.Add(sum, new(big.Int).Mul(e, wide(mask.A)))
		if who == 0 {
			sum.Add(sum, new(big.Int).Mul(d, e))
		}
	}
	out := make([]uint64, g.out)
	for at, sum := range behind {
		out[at] = round(sum)
	}
	return pooled(t, n, g.layer+1, out)
}

// same holds an answer against what it is to be.
func same(t *testing.T, what string, n api.Net, stage int, got []uint64, is bool, want []uint64) {
	t.Helper()
	if !is || !slices.Equal(got, want) {
		t.Fatalf("%s of %v at stage %d: %#x, %v, not %#x", what, n, stage, got, is, want)
	}
}

// none holds an answer against being none.
func none(t *testing.T, what string, n api.Net, stage int, got []uint64, is bool) {
	t.Helper()
	if is || len(got) != 0 {
		t.Errorf("%s of %v at stage %d: %#x, %v", what, n, stage, got, is)
	}
}

// holdFirst holds First of a network that must be right against M1, by a picture that is drawn.
func holdFirst(t *testing.T, from *uint64, n api.Net) {
	t.Helper()
	x := numbers(from, many(n.In))
	got, is := First(n, x)
	same(t, "First", n, 0, got, is, pooled(t, n, 0, x))
}

// holdStages holds Line and Next of a network that must be right, at each stage, against M2 and M3, as one party has them by that seed; what it has, and what both say, is drawn.
func holdStages(t *testing.T, from *uint64, n api.Net, r route, who int, seed uint64) {
	t.Helper()
	w := numbers(from, r.weights)
	taken := who
	if who != 0 {
		taken = 1
	}
	for stage := range len(r.legs) + 1 {
		x := numbers(from, r.takes(stage))
		mine, theirs := numbers(from, r.says(stage)), numbers(from, r.says(stage))
		line, is := Line(n, who, seed, stage, x, w)
		same(t, "Line", n, stage, line, is, r.modelLine(taken, seed, stage, x, w))
		next, is := Next(n, who, seed, stage, mine, theirs)
		same(t, "Next", n, stage, next, is, r.modelNext(t, n, taken, seed, stage, mine, theirs))
	}
}

// hold holds all that is told of a network that must be right against M1 to M3, for both parties.
func hold(t *testing.T, from *uint64, n api.Net, by []uint64) {
	t.Helper()
	r := way(t, n)
	holdFirst(t, from, n)
	for _, seed := range by {
		for who := range 2 {
			holdStages(t, from, n, r, who, seed)
		}
	}
}

// noStage are networks without a stage: without layers, and with Pools alone, up to as many as there is room for.
func noStage() []api.Net {
	return []api.Net{
		{In: pic(1, 1, 1)}, {In: pic(2, 3, 4), Layers: []api.Layer{}}, {In: pic(8, 4, 4)},
		of(pic(1, 2, 2), pool(2)), of(pic(2, 2, 4), pool(1)), of(pic(3, 4, 6), pool(2), pool(1)), of(pic(1, 8, 8), pool(2), pool(2), pool(2)),
		of(pic(1, 8, 8), append(slices.Repeat([]api.Layer{pool(2)}, 3), slices.Repeat([]api.Layer{pool(1)}, 5)...)...), of(pic(2, 2, 4), append(slices.Repeat([]api.Layer{pool(1)}, 7), pool(2))...),
	}
}

// networks are such of all kinds of layers, with Pools at the front, between, one behind the other, and at the end; with no stage at all; and with as many layers, and as many gates, as there is room for.
func networks() []api.Net {
	return append(noStage(),
		of(pic(1, 1, 1), square()), of(pic(2, 3, 2), square()), of(pic(1, 2, 3), dense(2)), of(pic(2, 1, 1), dense(3)), of(pic(1, 4, 4), conv(2, 3, 1)), of(pic(2, 3, 5), conv(3, 2, 2)), of(pic(3, 2, 2), conv(2, 1, 1)),
		of(pic(1, 1, 2), square(), dense(1)), of(pic(1, 4, 4), conv(2, 3, 1), dense(3)),
		of(pic(2, 4, 4), pool(2), square()), of(pic(1, 6, 6), pool(1), pool(3), dense(2)), of(pic(2, 6, 4), pool(2), conv(2, 2, 1)),
		of(pic(1, 4, 4), square(), pool(2)), of(pic(1, 5, 5), conv(2, 2, 1), pool(2), pool(2)), of(pic(1, 2, 2), dense(4), pool(1)), of(pic(1, 1, 1), dense(8), pool(1), pool(1)),
		of(pic(1, 5, 5), conv(2, 2, 1), pool(2), square()), of(pic(1, 4, 8), square(), pool(2), pool(2), dense(2)), of(pic(1, 2, 2), dense(4), pool(1), dense(2)), of(pic(1, 3, 3), square(), square()),
		of(pic(1, 4, 4), pool(1), conv(2, 3, 1), square(), pool(2), dense(3)), of(pic(2, 8, 8), pool(2), pool(1), conv(2, 1, 1), pool(2), pool(1), square(), pool(2), pool(1)),
		of(pic(1, 12, 8), pool(2), conv(2, 2, 1), pool(1), square(), dense(4), pool(1), square(), dense(1)),
		of(pic(1, 8, 8), pool(2), pool(2), square(), pool(2), pool(1), dense(3), pool(1), pool(1)),
		of(pic(1, 8, 8), slices.Repeat([]api.Layer{square()}, api.MaxLayers)...), of(pic(1, 2, 2), slices.Repeat([]api.Layer{dense(7)}, api.MaxLayers)...), of(pic(2, 3, 3), slices.Repeat([]api.Layer{conv(2, 1, 1)}, api.MaxLayers)...),
		of(pic(1, 4, 4), append(slices.Repeat([]api.Layer{square()}, 7), pool(2))...), of(pic(1, 4, 4), append(slices.Repeat([]api.Layer{square()}, 6), pool(2), pool(2))...),
		of(pic(8, 4, 4), dense(4)), of(pic(4, 4, 8), conv(4, 1, 1)), of(pic(8, 4, 4), slices.Repeat([]api.Layer{square()}, 4)...), of(pic(2, 8, 8), square(), square(), square(), square(), pool(2), pool(2)),
	)
}

// notRight are networks of which nothing is to be told, some of them with stages that would fit.
func notRight() []api.Net {
	in := pic(1, 4, 4)
	return []api.Net{
		{},
		{Layers: []api.Layer{square()}},
		of(pic(0, 4, 4), dense(1)), of(pic(9, 1, 1), dense(1)), of(pic(1, 13, 1), pool(1)), of(pic(1, 12, 12), pool(2)), of(pic(-1, 4, 4), square()), of(pic(-1, -1, 1)), of(pic(0, 0, 0), square()),
		of(pic(1<<32, 1<<32, 1), square()), of(pic(math.MaxInt, math.MaxInt, math.MaxInt), dense(1)), of(pic(math.MinInt, 1, 1), pool(1)), of(pic(1<<32, 1<<32, 1)),
		of(in, conv(0, 1, 1)), of(in, conv(9, 4, 1)), of(in, conv(1, 0, 1)), of(in, conv(1, 5, 1)), of(in, conv(1, 1, 0)), of(in, conv(1, 1, 13)),
		of(in, conv(-1, 1, 1)), of(in, conv(1, -1, 1)), of(in, conv(1, 1, -1)), of(in, conv(math.MaxInt, math.MaxInt, math.MaxInt)), of(in, conv(1, math.MinInt, 1)),
		of(in, pool(0)), of(in, pool(3)), of(in, pool(5)), of(in, pool(-1)), of(in, pool(math.MaxInt)), of(in, pool(math.MinInt)),
		of(in, dense(0)), of(in, dense(9)), of(in, dense(-1)), of(in, dense(math.MaxInt)), of(in, dense(math.MinInt)),
		of(in, api.Layer{}), of(in, api.Layer{Kind: 5}), of(in, api.Layer{Kind: -1}), of(in, api.Layer{Kind: api.Square, Size: 1}), of(in, api.Layer{Kind: api.Pool, Size: 2, Step: 2}),
		of(in, api.Layer{Kind: api.Dense, Out: 1, Step: 1}), of(in, api.Layer{Kind: math.MaxInt}), of(in, api.Layer{Kind: math.MinInt}),
		of(in, conv(2, 3, 1), square(), pool(2), dense(9)), of(in, pool(2), dense(3), pool(2)), of(in, pool(2), dense(3), api.Layer{}), of(in, square(), dense(0)),
		of(pic(8, 4, 4), dense(5)), of(pic(8, 4, 4), pool(2), square(), dense(8), dense(8), dense(8), dense(8), dense(8)), of(pic(8, 4, 4), dense(4), square()),
		of(in, slices.Repeat([]api.Layer{pool(1)}, api.MaxLayers+1)...), of(in, slices.Repeat([]api.Layer{square()}, api.MaxLayers+1)...),
	}
}

// P13.1 (M2, M3), P13.2: the chapter's example: of a Square of parts 1 and 2 both have parts of 9; what is said is written out, by the first numbers of the seed 0.
func TestExample(t *testing.T) {
	n := of(pic(1, 1, 1), square())
	ours, is := Line(n, 0, 0, 0, []uint64{1}, nil)
	same(t, "Line", n, 0, ours, is, []uint64{less(1, 0xe220a8397b1dcdaf), less(1, 0x6e789e6aa1b965f4)})
	theirs, is := Line(n, 1, 0, 0, []uint64{2}, nil)
	same(t, "Line", n, 0, theirs, is, []uint64{less(2, 0xf88bb8a8724c81ec), less(2, 0x1b39896a51a8749b)})
	for _, seed := range seeds() {
		ours, _ := Line(n, 0, seed, 0, []uint64{1}, nil)
		theirs, _ := Line(n, 1, seed, 0, []uint64{2}, nil)
		a, _ := Next(n, 0, seed, 0, ours, theirs)
		b, _ := Next(n, 1, seed, 0, theirs, ours)
		if len(a) != 1 || len(b) != 1 || a[0]+b[0] != 9 {
			t.Errorf("seed %#x: %#x and %#x", seed, a, b)
		}
		if a[0] == 1 || b[0] == 4 {
			t.Errorf("seed %#x: %#x and %#x are parts by chance", seed, a, b)
		}
		for _, c := range [][2][]uint64{{a, b}, {b, a}} {
			got, is := Next(n, 0, seed, 1, c[0], c[1])
			same(t, "Next", n, 1, got, is, []uint64{9})
		}
	}
}

// P13.1 (M1): pictures through Pools at the front, written out; what stands behind a stage stays for later.
func TestFirstWrittenOut(t *testing.T) {
	for _, c := range []struct {
		n    api.Net
		x, y []uint64
	}{
		{of(pic(1, 1, 2)), []uint64{3, top}, []uint64{3, top}},
		{of(pic(1, 1, 2), square()), []uint64{3, top}, []uint64{3, top}},
		{of(pic(1, 2, 2), square(), pool(2)), []uint64{1, 2, 3, 4}, []uint64{1, 2, 3, 4}},
		{of(pic(1, 2, 2), dense(1), pool(1)), []uint64{1, 2, 3, 4}, []uint64{1, 2, 3, 4}},
		{of(pic(1, 2, 2), pool(2)), []uint64{1 << 63, 1 << 63, top, 2}, []uint64{1}},
		{of(pic(1, 2, 2), pool(1), square()), []uint64{1, 2, 3, 4}, []uint64{1, 2, 3, 4}},
		{of(pic(2, 2, 4), pool(2), square(), pool(1)), []uint64{1, 2, 3, 4, 10, 20, 30, 40, 5, 6, 7, 8, 50, 60, 70, 80}, []uint64{33, 77, 121, 165}},
		{of(pic(1, 4, 4), pool(2), pool(2), dense(3)), []uint64{1, 2, 3, 4, 5, 6, 7, 8, 9, 10, 11, 12, 13, 14, 15, 16}, []uint64{136}},
		{of(pic(1, 4, 4), pool(2), conv(2, 2, 1)), []uint64{1, 2, 3, 4, 5, 6, 7, 8, 9, 10, 11, 12, 13, 14, 15, 16}, []uint64{14, 22, 46, 54}},
	} {
		got, is := First(c.n, c.x)
		same(t, "First", c.n, 0, got, is, c.y)
	}
}

// P13.1 (M2): what both parties say of a Conv behind a Pool, of a Square and of a Dense, gate by gate, written out; a seed's triples go on from stage to stage.
func TestLineWrittenOut(t *testing.T) {
	n := of(pic(1, 2, 6), pool(1), conv(1, 2, 2), square(), pool(1), dense(2))
	x, w := []uint64{1, 2, 3, 4, 5, 6, 10, 20, 30, 40, 50, 60}, []uint64{7, 8, 9, top, 100, 200, 300, 400, 500, 600}
	conved := [][2]uint64{{1, 7}, {2, 8}, {10, 9}, {20, top}, {3, 7}, {4, 8}, {30, 9}, {40, top}, {5, 7}, {6, 8}, {50, 9}, {60, top}}
	squared := [][2]uint64{{4, 4}, {5, 5}, {top, top}}
	made := [][2]uint64{{4, 100}, {5, 200}, {6, 300}, {4, 400}, {5, 500}, {6, 600}}
	for _, seed := range seeds() {
		for who := range 2 {
			for stage, c := range []struct {
				x     []uint64
				first uint64
				pairs [][2]uint64
			}{{x, 0, conved}, {[]uint64{4, 5, top}, 12, squared}, {[]uint64{4, 5, 6}, 15, made}} {
				var want []uint64
				for k, pair := range c.pairs {
					mask := triple.Half(seed, who, c.first+uint64(k))
					want = append(want, less(pair[0], mask.A), less(pair[1], mask.B))
				}
				got, is := Line(n, who, seed, stage, c.x, w)
				same(t, "Line", n, stage, got, is, want)
			}
			got, is := Line(n, who, seed, 3, []uint64{9, top}, w)
			same(t, "Line", n, 3, got, is, []uint64{9, top})
		}
	}
}

// P13.1 (M1 to M3): networks of all kinds, both parties, seeds at both ends, at each stage.
func TestAllKinds(t *testing.T) {
	from := uint64(131)
	for _, n := range networks() {
		hold(t, &from, n, seeds())
	}
}

// P13.1: each kind first, in between and last: all orders of up to three layers that are right, of several numbers each.
func TestOrders(t *testing.T) {
	choices := []api.Layer{conv(2, 2, 1), conv(3, 1, 2), square(), pool(1), pool(2), dense(1), dense(3)}
	from, came := uint64(132), map[[2]int]int{}
	var longer func(n api.Net)
	longer = func(n api.Net) {
		if !check.Right(n) {
			return
		}
		hold(t, &from, n, []uint64{0, 1, top}[draw(&from, 3):][:1])
		for i, l := range n.Layers {
			if len(n.Layers) > 2 {
				came[[2]int{l.Kind, min(i, 1) + i/(len(n.Layers)-1)}]++
			}
		}
		if len(n.Layers) == 3 {
			return
		}
		for _, l := range choices {
			longer(of(n.In, append(slices.Clone(n.Layers), l)...))
		}
	}
	longer(of(pic(1, 4, 6)))
	longer(of(pic(2, 4, 2)))
	for kind := api.Conv; kind <= api.Dense; kind++ {
		for place := range 3 {
			if came[[2]int{kind, place}] < 20 {
				t.Errorf("kind %d came %d times at place %d", kind, came[[2]int{kind, place}], place)
			}
		}
	}
}

// P13.1, P13.2: networks of up to MaxLayers layers, drawn so that they are right.
func TestManyLayers(t *testing.T) {
	from, long := uint64(133), 0
	for range 60 {
		n := of(pic(1+draw(&from, 3), 2+draw(&from, 7), 2+draw(&from, 7)))
		if !check.Right(n) {
			continue
		}
		for range 200 {
			l := []api.Layer{conv(1+draw(&from, 4), 1+draw(&from, 3), 1+draw(&from, 3)), square(), pool(1 + draw(&from, 3)), dense(1 + draw(&from, 8))}[draw(&from, 4)]
			if next := of(n.In, append(slices.Clone(n.Layers), l)...); check.Right(next) {
				n = next
			}
		}
		hold(t, &from, n, numbers(&from, 1))
		holdExact(t, &from, n, numbers(&from, 1)[0], 1)
		if len(n.Layers) == api.MaxLayers {
			long++
		}
	}
	if long < 20 {
		t.Errorf("only %d networks have all layers", long)
	}
}

// P13.1 (M2, M3), P1: every other number than 0 is taken as party 1, whatever the stage.
func TestOthersArePartyOne(t *testing.T) {
	from := uint64(134)
	for _, n := range []api.Net{of(pic(1, 2, 2)), of(pic(1, 2, 2), pool(2)), of(pic(1, 2, 2), square(), pool(2), dense(2)), of(pic(1, 4, 4), pool(1), conv(2, 3, 1), square(), pool(2), dense(3))} {
		r := way(t, n)
		for _, who := range others() {
			for _, seed := range seeds() {
				holdStages(t, &from, n, r, who, seed)
			}
		}
	}
}

// P13.1 (M2, M3): behind all stages a party says what it has, and both have the sum, whatever the seed, the party and the weights.
func TestEnd(t *testing.T) {
	from := uint64(135)
	for _, n := range networks() {
		r := way(t, n)
		end := len(r.legs)
		for _, seed := range seeds() {
			x, y := numbers(&from, r.end), numbers(&from, r.end)
			for _, who := range []int{0, 1, -1, math.MaxInt} {
				line, is := Line(n, who, seed, end, x, numbers(&from, r.weights))
				same(t, "Line", n, end, line, is, x)
				next, is := Next(n, who, seed, end, x, y)
				same(t, "Next", n, end, next, is, sums(x, y))
				next, is = Next(n, who, seed, end, y, x)
				same(t, "Next", n, end, next, is, sums(x, y))
			}
		}
	}
}

// P13.1: without weights none at all are asked for, and an empty row is as good as none.
func TestNoWeights(t *testing.T) {
	for _, n := range []api.Net{of(pic(1, 1, 2)), of(pic(1, 2, 2), pool(2)), of(pic(1, 1, 2), square(), square())} {
		r := way(t, n)
		for stage := range len(r.legs) + 1 {
			x := make([]uint64, r.takes(stage))
			for _, w := range [][]uint64{nil, {}, make([]uint64, 0, 4)} {
				got, is := Line(n, 1, 5, stage, x, w)
				same(t, "Line", n, stage, got, is, r.modelLine(1, 5, stage, x, w))
			}
			got, is := Line(n, 1, 5, stage, x, []uint64{0})
			none(t, "Line", n, stage, got, is)
		}
	}
}

// P13.1, P1, P2: of pictures, weights and lines that have too few numbers, or too many, there is none.
func TestNoneOfWrongRows(t *testing.T) {
	for i, n := range networks() {
		r, who, seed := way(t, n), i%3-1, seeds()[i%5]
		for _, wrong := range wrongs(many(n.In)) {
			got, is := First(n, wrong)
			none(t, "First", n, 0, got, is)
		}
		w := make([]uint64, r.weights)
		for stage := range len(r.legs) + 1 {
			x, line := make([]uint64, r.takes(stage)), make([]uint64, r.says(stage))
			if _, is := Line(n, who, seed, stage, x, w); !is {
				t.Errorf("Line of %v at stage %d: none", n, stage)
			}
			if _, is := Next(n, who, seed, stage, line, line); !is {
				t.Errorf("Next of %v at stage %d: none", n, stage)
			}
			for _, wrong := range wrongs(len(x)) {
				got, is := Line(n, who, seed, stage, wrong, w)
				none(t, "Line", n, stage, got, is)
			}
			for _, wrong := range wrongs(len(w)) {
				got, is := Line(n, who, seed, stage, x, wrong)
				none(t, "Line", n, stage, got, is)
			}
			for _, wrong := range wrongs(len(line)) {
				for _, both := range [][2][]uint64{{wrong, line}, {line, wrong}, {wrong, wrong}} {
					got, is := Next(n, who, seed, stage, both[0], both[1])
					none(t, "Next", n, stage, got, is)
				}
			}
			for _, both := range [][2]int{{len(line) - 1, len(line) + 1}, {len(line) + 1, len(line) - 1}} {
				got, is := Next(n, who, seed, stage, make([]uint64, both[0]), make([]uint64, both[1]))
				none(t, "Next", n, stage, got, is)
			}
		}
	}
}

// P13.1, P1, P2: what goes into a stage, and what is said of it, is none of another one's, unless it is as long.
func TestNoneOfOtherStages(t *testing.T) {
	for _, n := range networks() {
		r := way(t, n)
		w := make([]uint64, r.weights)
		for stage := range len(r.legs) + 1 {
			for other := range len(r.legs) + 1 {
				if r.takes(other) != r.takes(stage) {
					got, is := Line(n, 0, 3, stage, make([]uint64, r.takes(other)), w)
					none(t, "Line", n, stage, got, is)
				}
				if line := make([]uint64, r.says(other)); r.says(other) != r.says(stage) {
					got, is := Next(n, 0, 3, stage, line, line)
					none(t, "Next", n, stage, got, is)
				}
			}
			// A picture goes into a stage behind the Pools ahead of it, not ahead of them.
			if stage < len(r.legs) && many(n.In) != r.takes(stage) {
				got, is := Line(n, 0, 3, stage, make([]uint64, many(n.In)), w)
				none(t, "Line", n, stage, got, is)
			}
		}
	}
}

// P13.1, P1, P2: of stages below 0, and above S, there is none.
func TestNoneOfWrongStages(t *testing.T) {
	for i, n := range networks() {
		r, seed := way(t, n), seeds()[i%5]
		w := make([]uint64, r.weights)
		lengths := []int{0, 1, 2, r.end, many(n.In)}
		for stage := range r.legs {
			lengths = append(lengths, r.takes(stage), r.says(stage), len(r.legs[stage].products))
		}
		for _, stage := range outside(len(r.legs) + 1) {
			for _, length := range lengths {
				x := make([]uint64, length)
				for _, who := range []int{0, 1} {
					got, is := Line(n, who, seed, stage, x, w)
					none(t, "Line", n, stage, got, is)
					got, is = Next(n, who, seed, stage, x, x)
					none(t, "Next", n, stage, got, is)
				}
			}
			got, is := Line(n, 0, seed, stage, nil, nil)
			none(t, "Line", n, stage, got, is)
			got, is = Next(n, 1, seed, stage, nil, nil)
			none(t, "Next", n, stage, got, is)
		}
	}
}

// P13.1, P1, P2: a network that is not right has no first picture, no line and nothing behind it, not even at a stage that would fit.
func TestNoneOfWrongNetworks(t *testing.T) {
	for _, n := range notRight() {
		if check.Right(n) {
			t.Errorf("%v is right", n)
		}
		stages := append([]int{0, 1, 2, 3, 4, 5, 6, 7, 8, 9, -1}, outside(10)...)
		for _, length := range []int{0, 1, 2, 3, 4, 8, 9, 16, 17, 32, 128, 144, 1024} {
			x := make([]uint64, length)
			got, is := First(n, x)
			none(t, "First", n, 0, got, is)
			for _, stage := range stages {
				for _, weights := range []int{0, 1, 16, 18, 512, 640} {
					got, is := Line(n, stage%2, 7, stage, x, make([]uint64, weights))
					none(t, "Line", n, stage, got, is)
				}
				got, is := Next(n, stage%2, 7, stage, x, x)
				none(t, "Next", n, stage, got, is)
			}
		}
	}
}

// goes is what goes into each stage, and what comes out at the end, as plain makes it, layer by layer.
func goes(t *testing.T, n api.Net, r route, x, w []uint64) [][]uint64 {
	t.Helper()
	pictures := [][]uint64{x}
	for i := range n.Layers {
		y, is := plain.Layer(n, i, pictures[i], w)
		if !is {
			t.Fatalf("Layer(%v, %d): none", n, i)
		}
		pictures = append(pictures, y)
	}
	var all [][]uint64
	for _, g := range r.legs {
		all = append(all, pictures[g.layer])
	}
	return append(all, pictures[len(n.Layers)])
}

// party is one of two, as it goes through a network: what it has, and its weights.
type party struct {
	who  int
	x, w []uint64
}

// line is what the party says at a stage, which must be.
func (p party) line(t *testing.T, n api.Net, seed uint64, stage int) []uint64 {
	t.Helper()
	line, is := Line(n, p.who, seed, stage, p.x, p.w)
	if !is {
		t.Fatalf("Line(%v, %d) at stage %d: none", n, p.who, stage)
	}
	return line
}

// both are what two parties have behind a stage.
func both(t *testing.T, n api.Net, seed uint64, stage int, a, b party) ([]uint64, []uint64) {
	t.Helper()
	ours, theirs := a.line(t, n, seed, stage), b.line(t, n, seed, stage)
	first, is := Next(n, a.who, seed, stage, ours, theirs)
	second, it := Next(n, b.who, seed, stage, theirs, ours)
	if !is || !it {
		t.Fatalf("Next(%v, %d and %d) at stage %d: none", n, a.who, b.who, stage)
	}
	return first, second
}

// holdWay has two parties go through a network from parts of a picture and of weights on; behind each stage what they have must be parts of what its layer, and the Pools behind it, make; at the end both must have what the network makes.
func holdWay(t *testing.T, n api.Net, seed uint64, a, b party) {
	t.Helper()
	r := way(t, n)
	x, w := sums(a.x, b.x), sums(a.w, b.w)
	want := goes(t, n, r, x, w)
	end, is := plain.F(n, x, w)
	if !is || !slices.Equal(end, want[len(r.legs)]) {
		t.Fatalf("F(%v): %#x, not %#x", n, end, want[len(r.legs)])
	}
	a.x, is = First(n, a.x)
	first, it := First(n, b.x)
	b.x = first
	same(t, "First of both", n, 0, sums(a.x, b.x), is && it, want[0])
	for stage := range r.legs {
		a.x, b.x = both(t, n, seed, stage, a, b)
		same(t, "Next of both", n, stage, sums(a.x, b.x), len(a.x) == len(b.x), want[stage+1])
	}
	ours, theirs := both(t, n, seed, len(r.legs), a, b)
	same(t, "the first one's end", n, len(r.legs), ours, true, end)
	same(t, "the second one's end", n, len(r.legs), theirs, true, end)
}

// holdExact holds a network that is right against P13.2, by a picture and weights that are drawn, in parts of all kinds.
func holdExact(t *testing.T, from *uint64, n api.Net, seed uint64, second int) {
	t.Helper()
	r := way(t, n)
	x, w := numbers(from, many(n.In)), numbers(from, r.weights)
	parts := func(row []uint64) [][2][]uint64 {
		nought, drawn := make([]uint64, len(row)), numbers(from, len(row))
		mask, rest := share.Split(seed+7, row)
		return [][2][]uint64{{mask, rest}, {rest, mask}, {row, nought}, {nought, row}, {drawn, apart(row, drawn)}}
	}
	ofX, ofW := parts(x), parts(w)
	for i := range ofX {
		k := (i + draw(from, 2)*draw(from, 5)) % 5
		holdWay(t, n, seed, party{0, ofX[i][0], ofW[k][0]}, party{second, ofX[i][1], ofW[k][1]})
	}
}

// P13.2: networks of all kinds, seeds at both ends, numbers of all sizes, in parts of all kinds.
func TestExact(t *testing.T) {
	from := uint64(136)
	for _, n := range networks() {
		for i, seed := range seeds() {
			holdExact(t, &from, n, seed, others()[(i*draw(&from, 4))%len(others())])
		}
	}
}

// P13.2: numbers at which sums and products go round, each by each, through a layer of each kind.
func TestExactAtTheEdges(t *testing.T) {
	edges := []uint64{0, 1, 2, 1 << 31, 1<<32 - 1, 1 << 32, 1<<32 + 1, 1<<63 - 1, 1 << 63, 1<<63 + 1, top - 1, top}
	for i, a := range edges {
		for k, b := range edges {
			seed := seeds()[(i+k)%5]
			for _, n := range []api.Net{of(pic(1, 1, 2), square()), of(pic(1, 1, 2), dense(2)), of(pic(2, 1, 1), conv(2, 1, 1)), of(pic(1, 1, 2), square(), pool(1), dense(2))} {
				x, w := []uint64{a, b}, []uint64{b, a, b, b}[:way(t, n).weights]
				firstX, secondX := share.Split(b, x)
				firstW, secondW := share.Split(a, w)
				holdWay(t, n, seed, party{0, firstX, firstW}, party{1, secondX, secondW})
				holdWay(t, n, seed, party{0, x, w}, party{1, make([]uint64, 2), make([]uint64, len(w))})
			}
		}
	}
}

// P13.2: what is hard to come by on the way from the front is held at each stage by itself: any parts of any picture that goes in there.
func TestExactAtEachStage(t *testing.T) {
	from := uint64(137)
	for _, n := range networks() {
		r := way(t, n)
		for stage, g := range r.legs {
			for _, seed := range seeds() {
				a := party{0, numbers(&from, g.in), numbers(&from, r.weights)}
				b := party{1, numbers(&from, g.in), numbers(&from, r.weights)}
				want, is := plain.Layer(n, g.layer, sums(a.x, b.x), sums(a.w, b.w))
				if !is {
					t.Fatalf("Layer(%v, %d): none", n, g.layer)
				}
				ours, theirs := both(t, n, seed, stage, a, b)
				same(t, "Next of both", n, stage, sums(ours, theirs), len(ours) == len(theirs), pooled(t, n, g.layer+1, want))
			}
		}
	}
}

// P13.2: it needs what both say, each party its own triples, and both the same dealer: otherwise it is not what the layer makes.
func TestNotExact(t *testing.T) {
	n := of(pic(1, 1, 1), square())
	a, b := party{0, []uint64{5}, nil}, party{1, []uint64{9}, nil}
	ours, theirs := a.line(t, n, 3, 0), b.line(t, n, 3, 0)
	next := func(who int, seed uint64, mine, theirs []uint64) uint64 {
		got, is := Next(n, who, seed, 0, mine, theirs)
		if !is {
			t.Fatal("none")
		}
		return got[0]
	}
	if got := next(0, 3, ours, theirs) + next(1, 3, theirs, ours); got != 14*14 {
		t.Fatalf("%#x", got)
	}
	for i, got := range []uint64{
		next(0, 3, ours, theirs) + next(0, 3, theirs, ours),
		next(1, 3, ours, theirs) + next(1, 3, theirs, ours),
		next(0, 3, ours, theirs) + next(1, 4, theirs, ours),
		next(0, 3, ours, ours) + next(1, 3, theirs, theirs),
		next(0, 3, ours, []uint64{0, 0}) + next(1, 3, theirs, []uint64{0, 0}),
		next(0, 3, ours, theirs),
		next(1, 3, theirs, ours),
	} {
		if got == 14*14 {
			t.Errorf("%d: %#x", i, got)
		}
	}
}

// far is how far apart lines are, if pictures are as far apart as x, and weights as far as w: each product's numbers, one by one; at the end the picture itself.
func (r route) far(stage int, x, w []uint64) []uint64 {
	if stage == len(r.legs) {
		return x
	}
	var all []uint64
	for _, p := range r.legs[stage].products {
		if p.w == -1 {
			all = append(all, x[p.x], x[p.x])
		} else {
			all = append(all, x[p.x], w[p.w])
		}
	}
	return all
}

// P13.3: what lines say of two pictures is as far apart as these are, whatever both are, at each stage, whatever the masks; and as two rows of weights are.
func TestMasked(t *testing.T) {
	from := uint64(138)
	for _, n := range networks() {
		r := way(t, n)
		for stage := range len(r.legs) + 1 {
			for _, seed := range seeds() {
				for _, who := range []int{0, 1, -1} {
					x, y := numbers(&from, r.takes(stage)), numbers(&from, r.takes(stage))
					w, v := numbers(&from, r.weights), numbers(&from, r.weights)
					one := party{who, x, w}.line(t, n, seed, stage)
					two := party{who, y, w}.line(t, n, seed, stage)
					same(t, "two pictures' lines", n, stage, apart(one, two), true, r.far(stage, apart(x, y), make([]uint64, len(w))))
					two = party{who, y, v}.line(t, n, seed, stage)
					same(t, "the lines of two pictures, and two weights", n, stage, apart(one, two), true, r.far(stage, apart(x, y), apart(w, v)))
				}
			}
		}
	}
}

// P13.3: pictures of all sizes that are one number apart: lines are apart wherever that number is said, and nowhere else.
func TestMaskedOneByOne(t *testing.T) {
	from := uint64(139)
	for _, n := range []api.Net{of(pic(1, 3, 3), conv(2, 2, 1)), of(pic(2, 2, 2), square(), pool(2)), of(pic(1, 2, 3), dense(2)), of(pic(1, 4, 4), pool(2)), of(pic(1, 4, 4), pool(2), square(), dense(2))} {
		r := way(t, n)
		for stage := range len(r.legs) + 1 {
			x, w := numbers(&from, r.takes(stage)), numbers(&from, r.weights)
			was := party{1, x, w}.line(t, n, 11, stage)
			for at := range x {
				for _, step := range []uint64{1, 1 << 32, 1 << 63, top} {
					y := slices.Clone(x)
					y[at] += step
					by := make([]uint64, len(x))
					by[at] = step
					now := party{1, y, w}.line(t, n, 11, stage)
					same(t, "lines of pictures one number apart", n, stage, apart(now, was), true, r.far(stage, by, make([]uint64, len(w))))
				}
			}
		}
	}
}

// P13.3: no line before the end says a number as it is: what it says of noughts are masks of each gate's own, and they differ from gate to gate, stage to stage, party to party and seed to seed.
func TestMasksDiffer(t *testing.T) {
	n := of(pic(1, 4, 4), pool(1), conv(2, 3, 1), square(), pool(2), dense(3))
	r, seen := way(t, n), map[uint64]bool{}
	total := 0
	for _, seed := range []uint64{0, 1 << 40, top} {
		for who := range 2 {
			for stage := range r.legs {
				line := party{who, make([]uint64, r.takes(stage)), make([]uint64, r.weights)}.line(t, n, seed, stage)
				for _, number := range line {
					seen[number] = true
				}
				total += len(line)
			}
		}
	}
	if len(seen) != total || seen[0] {
		t.Errorf("of %d numbers that are said %d differ", total, len(seen))
	}
}

// spoil writes over a list, and over its spare room.
func spoil[T any](list []T, with T) {
	for i := range list[:cap(list)] {
		list[:cap(list)][i] = with
	}
}

// roomy is a row with others behind it, within its spare room, and all of it.
func roomy(from *uint64, length int) (row, all []uint64) {
	all = numbers(from, length+9)
	return all[:length], all
}

// P3: the network, what a party has, the weights and the lines, with their spare room, read afterwards as they read before, whether there is an answer or none; what comes out is new memory, its spare room too, and no call hangs on one ahead of it.
func TestNothingChangedNorKept(t *testing.T) {
	from := uint64(140)
	for _, n := range append(networks(), notRight()...) {
		weights, _ := check.All(n)
		layers := append(slices.Clone(n.Layers), dense(8), pool(5), api.Layer{Kind: -3, Out: -4})
		in := n.In
		n.Layers = layers[:len(n.Layers)]
		wasLayers := slices.Clone(layers)
		lengths := [][2]int{{9, 18}, {16, 0}}
		if check.Right(n) {
			lengths = nil
			for r, stage := way(t, n), 0; stage <= len(r.legs); stage++ {
				lengths = append(lengths, [2]int{r.takes(stage), r.says(stage)})
			}
		}
		for stage, l := range lengths {
			x, allX := roomy(&from, l[0])
			w, allW := roomy(&from, weights)
			mine, allMine := roomy(&from, l[1])
			theirs, allTheirs := roomy(&from, l[1])
			picture, allPicture := roomy(&from, 0)
			if in.C > 0 && in.C*in.H*in.W > 0 && many(in) <= api.MaxSize {
				picture, allPicture = roomy(&from, many(in))
			}
			was := slices.Concat(allX, allW, allMine, allTheirs, allPicture)
			for _, call := range []func() ([]uint64, bool){
				func() ([]uint64, bool) { return First(n, picture) },
				func() ([]uint64, bool) { return Line(n, stage%2, 5, stage, x, w) },
				func() ([]uint64, bool) { return Line(n, stage%2, 5, -stage-1, x, w) },
				func() ([]uint64, bool) { return Line(n, stage%2, 5, stage, x[1:], w) },
				func() ([]uint64, bool) { return Next(n, stage%2, 5, stage, mine, theirs) },
				func() ([]uint64, bool) { return Next(n, stage%2, 5, stage, mine, theirs[:len(theirs)/2]) },
			} {
				got, is := call()
				want := slices.Clone(got)
				if len(got) > 0 != is || is && !check.Right(n) {
					t.Errorf("%v at stage %d: %#x, %v", n, stage, got, is)
				}
				other, _ := call()
				spoil(got, 77)
				if !slices.Equal(other, want) {
					t.Errorf("%v at stage %d: two answers are one memory", n, stage)
				}
				if again, still := call(); is != still || !slices.Equal(again, want) {
					t.Errorf("%v at stage %d: %#x, then %#x", n, stage, want, again)
				}
			}
			if !slices.Equal(slices.Concat(allX, allW, allMine, allTheirs, allPicture), was) {
				t.Errorf("%v at stage %d: what was handed in was changed", n, stage)
			}
		}
		if !slices.Equal(layers, wasLayers) || n.In != in {
			t.Errorf("%v was changed, or what stands behind its layers", n)
		}
	}
}

// P3: an answer does not hang on what was handed in, once the call has answered.
func TestAnswersStay(t *testing.T) {
	from := uint64(141)
	for _, n := range networks() {
		n.Layers = slices.Clone(n.Layers)
		r := way(t, n)
		for stage := range len(r.legs) + 1 {
			picture, x, w := numbers(&from, many(n.In)), numbers(&from, r.takes(stage)), numbers(&from, r.weights)
			mine, theirs := numbers(&from, r.says(stage)), numbers(&from, r.says(stage))
			first, _ := First(n, picture)
			line, _ := Line(n, 0, 9, stage, x, w)
			next, _ := Next(n, 0, 9, stage, mine, theirs)
			was := slices.Concat(first, line, next)
			for _, row := range [][]uint64{picture, x, w, mine, theirs} {
				spoil(row, 3)
			}
			if !slices.Equal(slices.Concat(first, line, next), was) {
				t.Errorf("%v at stage %d: what came out hangs on what went in", n, stage)
			}
		}
	}
}

// P3: one row may be handed in at several places, and is not changed either.
func TestOneRowAtSeveralPlaces(t *testing.T) {
	n := of(pic(1, 2, 2), conv(1, 2, 1), square())
	row := []uint64{1, 2, 3, top}
	was := slices.Clone(row)
	r := way(t, n)
	for range 2 {
		line, is := Line(n, 1, 4, 0, row, row)
		same(t, "Line", n, 0, line, is, r.modelLine(1, 4, 0, was, was))
		whole := slices.Repeat(row, 2)
		next, is := Next(n, 1, 4, 0, whole, whole)
		same(t, "Next", n, 0, next, is, r.modelNext(t, n, 1, 4, 0, slices.Repeat(was, 2), slices.Repeat(was, 2)))
		end, is := Next(of(n.In), 1, 4, 0, row, row)
		same(t, "Next", of(n.In), 0, end, is, sums(was, was))
	}
	if !slices.Equal(row, was) {
		t.Errorf("%#x is %#x now", was, row)
	}
}

// P3: a network that is changed by its owner is looked at anew.
func TestLooksAnew(t *testing.T) {
	from := uint64(142)
	n := of(pic(1, 4, 4), conv(2, 3, 1), dense(3))
	hold(t, &from, n, []uint64{6})
	n.Layers[0] = pool(2)
	hold(t, &from, n, []uint64{6})
	n.Layers[0] = pool(3)
	got, is := First(n, make([]uint64, 16))
	none(t, "First", n, 0, got, is)
	got, is = Line(n, 0, 6, 0, make([]uint64, 16), make([]uint64, 42))
	none(t, "Line", n, 0, got, is)
	n.Layers[0] = square()
	hold(t, &from, n, []uint64{6})
	n.In = pic(2, 2, 3)
	hold(t, &from, n, []uint64{6})
}
