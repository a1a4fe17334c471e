package plain

import (
	"math"
	"math/big"
	"slices"
	"testing"

	"symbolon/api"
	"symbolon/check"
)

func of(in api.Shape, layers ...api.Layer) api.Net { return api.Net{In: in, Layers: layers} }

func pic(c, h, w int) api.Shape { return api.Shape{C: c, H: h, W: w} }

func conv(out, size, step int) api.Layer {
	return api.Layer{Kind: api.Conv, Out: out, Size: size, Step: step}
}

func square() api.Layer { return api.Layer{Kind: api.Square} }

func pool(size int) api.Layer { return api.Layer{Kind: api.Pool, Size: size} }

func dense(out int) api.Layer { return api.Layer{Kind: api.Dense, Out: out} }

// sum is one of numbers as great as they are; only what is read of it goes round at 2^64.
type sum struct{ all big.Int }

// add adds a product.
func (s *sum) add(a, b uint64) {
	x, y := new(big.Int).SetUint64(a), new(big.Int).SetUint64(b)
	s.all.Add(&s.all, x.Mul(x, y))
}

// number is what is left of the sum at 2^64.
func (s *sum) number() uint64 {
	round := new(big.Int).Lsh(big.NewInt(1), 64)
	return round.Mod(&s.all, round).Uint64()
}

// pile is numbers that are taken from the top.
type pile struct{ left []uint64 }

// take takes so many.
func (p *pile) take(many int) []uint64 {
	taken := p.left[:many]
	p.left = p.left[many:]
	return taken
}

// sheets takes channels, rows and columns.
func (p *pile) sheets(s api.Shape) [][][]uint64 {
	all := make([][][]uint64, s.C)
	for c := range all {
		for range s.H {
			all[c] = append(all[c], p.take(s.W))
		}
	}
	return all
}

// looked goes through what goes in by squares of that size, a step apart, row by row, and tells the first row and column of each; with how many rows and columns that makes.
func looked(s api.Shape, size, step int, tell func(top, left int)) (h, w int) {
	for top := 0; top+size <= s.H; top += step {
		h, w = h+1, 0
		for left := 0; left+size <= s.W; left += step {
			w++
			tell(top, left)
		}
	}
	return h, w
}

// convolved is what a Conv makes.
func convolved(s api.Shape, l api.Layer, x []uint64, weights *pile) (api.Shape, []uint64) {
	var y []uint64
	picture, h, w := (&pile{x}).sheets(s), 0, 0
	for range l.Out {
		kernels := weights.sheets(pic(s.C, l.Size, l.Size))
		h, w = looked(s, l.Size, l.Step, func(top, left int) {
			var all sum
			for c, kernel := range kernels {
				for i, row := range kernel {
					for j, weight := range row {
						all.add(picture[c][top+i][left+j], weight)
					}
				}
			}
			y = append(y, all.number())
		})
	}
	return pic(l.Out, h, w), y
}

// pooled is what a Pool makes.
func pooled(s api.Shape, l api.Layer, x []uint64) (api.Shape, []uint64) {
	var y []uint64
	h, w := 0, 0
	for _, sheet := range (&pile{x}).sheets(s) {
		h, w = looked(s, l.Size, l.Size, func(top, left int) {
			var all sum
			for _, row := range sheet[top : top+l.Size] {
				for _, one := range row[left : left+l.Size] {
					all.add(one, 1)
				}
			}
			y = append(y, all.number())
		})
	}
	return pic(s.C, h, w), y
}

// made is what a layer makes of a picture of the shape s; it takes its weights from the pile.
func made(s api.Shape, l api.Layer, x []uint64, weights *pile) (api.Shape, []uint64) {
	switch l.Kind {
	case api.Conv:
		return convolved(s, l, x, weights)
	case api.Pool:
		return pooled(s, l, x)
	}
	var y []uint64
	if l.Kind == api.Square {
		for _, one := range x {
			var all sum
			all.add(one, one)
			y = append(y, all.number())
		}
		return s, y
	}
	for range l.Out {
		var all sum
		for i, weight := range weights.take(len(x)) {
			all.add(x[i], weight)
		}
		y = append(y, all.number())
	}
	return pic(l.Out, 1, 1), y
}

// model is x, and what comes of it behind each layer of a network that is right; and how many weights are left.
func model(n api.Net, x, w []uint64) ([][]uint64, int) {
	pictures, weights, s := [][]uint64{x}, &pile{w}, n.In
	for _, l := range n.Layers {
		s, x = made(s, l, x, weights)
		pictures = append(pictures, x)
	}
	return pictures, len(weights.left)
}

// draw is a number below n, and what the next one is drawn from.
func draw(from *uint64, n int) int {
	*from = *from*6364136223846793005 + 1442695040888963407
	return int(*from >> 33 % uint64(n))
}

// numbers are so many: small ones, great ones, and those at which sums and products go round.
func numbers(from *uint64, many int) []uint64 {
	edges := []uint64{0, 1, 2, 3, 1 << 32, 1<<32 - 1, 1<<32 + 1, 1 << 63, 1<<63 - 1, 1<<63 + 1, 1<<64 - 1, 1<<64 - 2}
	all := make([]uint64, many)
	for i := range all {
		switch draw(from, 3) {
		case 0:
			all[i] = edges[draw(from, len(edges))]
		case 1:
			all[i] = uint64(draw(from, 100))
		case 2:
			all[i] = uint64(draw(from, 1<<31))<<33 ^ uint64(draw(from, 1<<31))<<11 ^ uint64(draw(from, 1<<31))
		}
	}
	return all
}

// shapes are those of a network that must be right.
func shapes(t *testing.T, n api.Net) []api.Shape {
	t.Helper()
	all, wrong := check.Shapes(n)
	if wrong != api.OK {
		t.Fatalf("%v is not right", n)
	}
	return all
}

// drawn is a picture for a network that is right, and all its weights.
func drawn(t *testing.T, from *uint64, n api.Net) (x, w []uint64) {
	t.Helper()
	many, _ := check.All(n)
	return numbers(from, size(shapes(t, n)[0])), numbers(from, many)
}

// hold holds every layer of a network that is right, and the whole, against the model, by a picture and weights that are drawn.
func hold(t *testing.T, from *uint64, n api.Net) {
	t.Helper()
	x, w := drawn(t, from, n)
	holdBy(t, n, x, w)
}

// holdBy holds every layer of a network that is right, and the whole, against the model.
func holdBy(t *testing.T, n api.Net, x, w []uint64) {
	t.Helper()
	pictures, left := model(n, x, w)
	if left != 0 {
		t.Fatalf("%v: %d weights are left", n, left)
	}
	for i := range n.Layers {
		if y, is := Layer(n, i, pictures[i], w); !is || !slices.Equal(y, pictures[i+1]) {
			t.Fatalf("Layer(%v, %d, %d, %d): %d, %v, not %d", n, i, pictures[i], w, y, is, pictures[i+1])
		}
	}
	if y, is := F(n, x, w); !is || !slices.Equal(y, pictures[len(n.Layers)]) {
		t.Fatalf("F(%v, %d, %d): %d, %v, not %d", n, x, w, y, is, pictures[len(n.Layers)])
	}
}

// P7.1 (G1, G2): the chapter's example, and layers of each kind alone whose numbers are written out; sums and products go round.
func TestWrittenOut(t *testing.T) {
	const most = 1<<64 - 1
	for _, c := range []struct {
		n       api.Net
		x, w, y []uint64
	}{
		{of(pic(1, 1, 2), square()), []uint64{3, 1 << 32}, nil, []uint64{9, 0}},
		{of(pic(1, 1, 1), square()), []uint64{1 << 32}, nil, []uint64{0}},
		{of(pic(2, 2, 2), square()), []uint64{0, 1, 1 << 63, most, 1<<32 + 1, 1<<32 - 1, 5, most - 1}, nil, []uint64{0, 1, 0, 1, 1<<33 + 1, most - 1<<33 + 2, 25, 4}},
		{of(pic(1, 2, 2), pool(2)), []uint64{1 << 63, 1 << 63, most, 2}, nil, []uint64{1}},
		{of(pic(2, 1, 2), pool(1)), []uint64{1 << 63, 0, most, 2}, nil, []uint64{1 << 63, 0, most, 2}},
		{of(pic(2, 2, 4), pool(2)), []uint64{1, 2, 3, 4, 10, 20, 30, 40, 5, 6, 7, 8, 50, 60, 70, 80}, nil, []uint64{33, 77, 121, 165}},
		{of(pic(1, 4, 2), pool(2)), []uint64{1, 2, 3, 4, 10, 20, 30, 40}, nil, []uint64{10, 100}},
		{of(pic(2, 1, 2), dense(2)), []uint64{1, 10, 100, most}, []uint64{1, 2, 3, 4, most, 0, 0, most}, []uint64{317, 0}},
		{of(pic(1, 1, 1), dense(3)), []uint64{1 << 32}, []uint64{1 << 32, 1 << 31, most}, []uint64{0, 1 << 63, most - 1<<32 + 1}},
		{of(pic(1, 2, 3), conv(2, 2, 1)), []uint64{1, 2, 3, 4, 5, 6}, []uint64{1, 0, 0, 2, most, 1, 0, 0}, []uint64{11, 14, 1, 1}},
		{of(pic(1, 3, 2), conv(1, 2, 1)), []uint64{1, 2, 3, 4, 5, 6}, []uint64{1, 10, 100, 1000}, []uint64{4321, 6543}},
		{of(pic(2, 2, 2), conv(1, 2, 1)), []uint64{1, 2, 3, 4, 5, 6, 7, 8}, []uint64{1, 10, 100, 1000, 10000, 100000, 1000000, 10000000}, []uint64{87654321}},
		{of(pic(2, 1, 2), conv(2, 1, 1)), []uint64{1, 2, 3, 4}, []uint64{1, 10, 100, 1000}, []uint64{31, 42, 3100, 4200}},
		{of(pic(1, 2, 5), conv(1, 2, 3)), []uint64{1, 2, 3, 4, 5, 6, 7, 8, 9, 0}, []uint64{1, 10, 100, 1000}, []uint64{7621, 954}},
		{of(pic(1, 3, 3), conv(1, 1, 2)), []uint64{1, 2, 3, 4, 5, 6, 7, 8, 9}, []uint64{1 << 63}, []uint64{1 << 63, 1 << 63, 1 << 63, 1 << 63}},
		{of(pic(1, 3, 3), conv(1, 1, 2)), []uint64{1, 2, 3, 4, 5, 6, 7, 8, 9}, []uint64{7}, []uint64{7, 21, 49, 63}},
	} {
		if y, is := Layer(c.n, 0, c.x, c.w); !is || !slices.Equal(y, c.y) {
			t.Errorf("Layer(%v, 0, %d, %d): %d, %v, not %d", c.n, c.x, c.w, y, is, c.y)
		}
		if y, is := F(c.n, c.x, c.w); !is || !slices.Equal(y, c.y) {
			t.Errorf("F(%v, %d, %d): %d, %v, not %d", c.n, c.x, c.w, y, is, c.y)
		}
	}
}

// P7.1 (G1), P7.3: a network of all kinds whose numbers are written out behind each layer; each layer takes its own weights, behind those of all layers ahead.
func TestAllKindsWrittenOut(t *testing.T) {
	n := of(pic(1, 3, 3), conv(2, 2, 1), square(), pool(2), dense(2), dense(1))
	w := []uint64{1, 1, 1, 1, 1, 0, 0, 1<<64 - 1, 1, 2, 3, 4, 10, 1<<64 - 1}
	for i, x := range [][]uint64{{1, 2, 3, 4, 5, 6, 7, 8, 9}, {12, 16, 24, 28, 1<<64 - 4, 1<<64 - 4, 1<<64 - 4, 1<<64 - 4}, {144, 256, 576, 784, 16, 16, 16, 16}, {1760, 64}, {1888, 5536}} {
		want := [][]uint64{{12, 16, 24, 28, 1<<64 - 4, 1<<64 - 4, 1<<64 - 4, 1<<64 - 4}, {144, 256, 576, 784, 16, 16, 16, 16}, {1760, 64}, {1888, 5536}, {13344}}[i]
		if y, is := Layer(n, i, x, w); !is || !slices.Equal(y, want) {
			t.Errorf("layer %d: %d, %v, not %d", i, y, is, want)
		}
		if y, is := F(of(n.In, n.Layers[:i+1]...), []uint64{1, 2, 3, 4, 5, 6, 7, 8, 9}, w[:[]int{8, 8, 8, 12, 14}[i]]); !is || !slices.Equal(y, want) {
			t.Errorf("the first %d layers: %d, %v, not %d", i+1, y, is, want)
		}
	}
}

// pictures are such of one and several channels, with as many rows as columns, with more, with fewer, with just one, and as great as may be.
func pictures() []api.Shape {
	return []api.Shape{
		pic(1, 1, 1), pic(8, 1, 1), pic(1, 4, 4), pic(1, 3, 7), pic(1, 7, 3), pic(2, 5, 6), pic(3, 6, 4), pic(4, 3, 3),
		pic(1, 12, 10), pic(1, 10, 12), pic(1, 1, 12), pic(2, 12, 1), pic(8, 4, 4), pic(2, 8, 8), pic(1, 11, 11), pic(3, 4, 8),
	}
}

// count notes what holds.
func count(many map[string]int, holds map[string]bool) {
	for what, is := range holds {
		if is {
			many[what]++
		} else {
			many[what] += 0
		}
	}
}

// P7.1: Convs alone, of all sizes of windows from one place to as wide as what goes in, all steps, and all numbers of channels that are right.
func TestConvAlone(t *testing.T) {
	from, right := uint64(71), map[string]int{}
	for _, in := range pictures() {
		for out := range api.MaxC + 1 {
			for size := range api.MaxSide + 1 {
				for step := range api.MaxSide + 1 {
					n := of(in, conv(out, size, step))
					if !check.Right(n) {
						continue
					}
					hold(t, &from, n)
					side := min(in.H, in.W)
					count(right, map[string]bool{
						"one place": size == 1 && side > 1, "in between": size > 1 && size < side, "as wide": size > 1 && size == side,
						"step 1": step == 1, "step 2": step == 2, "a step beyond": step > side, "wide": in.W > in.H, "tall": in.H > in.W,
						"one in": in.C == 1, "several in": in.C > 1, "one out": out == 1, "several out": out > 1, "several in and out": in.C > 1 && out > 1 && size > 1,
					})
				}
			}
		}
	}
	for what, many := range right {
		if many < 5 {
			t.Errorf("%s: only %d networks", what, many)
		}
	}
}

// P7.1: a Dense, a Square and a Pool alone, of one and several channels; blocks of one place, in between, and of all rows and columns.
func TestOthersAlone(t *testing.T) {
	from, blocks := uint64(72), map[string]int{}
	for _, in := range pictures() {
		layers := []api.Layer{square()}
		for out := range api.MaxC + 1 {
			layers = append(layers, dense(out))
		}
		for size := range api.MaxSide + 1 {
			layers = append(layers, pool(size))
		}
		for _, l := range layers {
			n := of(in, l)
			if !check.Right(n) {
				continue
			}
			hold(t, &from, n)
			if l.Kind == api.Pool {
				side := max(in.H, in.W)
				count(blocks, map[string]bool{"one place": l.Size == 1 && side > 1, "in between": l.Size > 1 && l.Size < side, "all": l.Size > 1 && l.Size == in.H && l.Size == in.W, "several channels": in.C > 1})
			}
		}
	}
	for what, many := range blocks {
		if many < 4 {
			t.Errorf("%s: only %d networks", what, many)
		}
	}
}

// P7.1: each of the numbers at which sums and products go round, by each other, through a layer of each kind.
func TestNumbersGoRound(t *testing.T) {
	edges := []uint64{0, 1, 2, 1 << 31, 1<<32 - 1, 1 << 32, 1<<32 + 1, 1<<63 - 1, 1 << 63, 1<<63 + 1, 1<<64 - 2, 1<<64 - 1}
	for _, a := range edges {
		for _, b := range edges {
			holdBy(t, of(pic(1, 1, 2), square()), []uint64{a, b}, nil)
			holdBy(t, of(pic(1, 2, 2), pool(2)), []uint64{a, b, a, b}, nil)
			holdBy(t, of(pic(2, 1, 1), dense(2)), []uint64{a, b}, []uint64{b, a, a, a})
			holdBy(t, of(pic(2, 1, 1), conv(2, 1, 1)), []uint64{a, b}, []uint64{b, b, b, a})
			holdBy(t, of(pic(1, 2, 2), conv(1, 2, 1), square(), dense(1)), []uint64{a, b, a, a}, []uint64{b, b, a, b, a})
		}
	}
}

// P7.1, P7.3: each kind first, in between and last: all orders of up to three layers that are right, of several numbers each.
func TestOrders(t *testing.T) {
	choices := []api.Layer{conv(2, 2, 1), conv(3, 1, 2), square(), pool(1), pool(2), dense(1), dense(3)}
	from, came := uint64(73), map[[2]int]int{}
	var longer func(n api.Net)
	longer = func(n api.Net) {
		if !check.Right(n) {
			return
		}
		hold(t, &from, n)
		holdCuts(t, &from, n)
		for i, l := range n.Layers {
			if len(n.Layers) > 2 {
				came[[2]int{l.Kind, min(i, 1) + i/(len(n.Layers)-1)}]++
			}
		}
		if len(n.Layers) == 3 {
			return
		}
		for _, l := range choices {
			longer(of(n.In, append(slices.Clone(n.Layers), l)...))
		}
	}
	longer(of(pic(1, 4, 6)))
	longer(of(pic(2, 5, 3)))
	for kind := api.Conv; kind <= api.Dense; kind++ {
		for place := range 3 {
			if came[[2]int{kind, place}] < 20 {
				t.Errorf("kind %d came %d times at place %d", kind, came[[2]int{kind, place}], place)
			}
		}
	}
}

// holdCuts holds a network that is right against P7.3: it is its layers, one by one; and cut into two, wherever, both, one behind the other, each with its own weights.
func holdCuts(t *testing.T, from *uint64, n api.Net) {
	t.Helper()
	x, w := drawn(t, from, n)
	want, is := F(n, x, w)
	if !is {
		t.Fatalf("F(%v): none", n)
	}
	y := x
	for i := range n.Layers {
		if y, is = Layer(n, i, y, w); !is {
			t.Fatalf("Layer(%v, %d): none", n, i)
		}
	}
	if !slices.Equal(y, want) {
		t.Errorf("%v: %d, its layers in turn %d", n, want, y)
	}
	for i, s := range shapes(t, n) {
		first, second := of(n.In, n.Layers[:i]...), of(s, n.Layers[i:]...)
		ahead, _ := check.All(first)
		between, is := F(first, x, w[:ahead])
		if !is {
			t.Fatalf("F(%v): none", first)
		}
		if y, is := F(second, between, w[ahead:]); !is || !slices.Equal(y, want) {
			t.Errorf("%v: %d, cut ahead of layer %d %d, %v", n, want, i, y, is)
		}
		for j := range second.Layers {
			whole, _ := Layer(n, i+j, between, w)
			part, is := Layer(second, j, between, w[ahead:])
			if !is || !slices.Equal(whole, part) {
				t.Errorf("%v, layer %d: %d, cut ahead of layer %d %d", n, i+j, whole, i, part)
			}
			between = part
		}
	}
}

// holdSums holds every layer of a network that is right against P7.2: but for a Square, it goes over sums of pictures; a Conv and a Dense over sums of weights.
func holdSums(t *testing.T, from *uint64, n api.Net) {
	t.Helper()
	all, squares := shapes(t, n), 0
	for i, l := range n.Layers {
		_, w := drawn(t, from, n)
		_, more := drawn(t, from, n)
		x, other := numbers(from, size(all[i])), numbers(from, size(all[i]))
		one, _ := Layer(n, i, x, w)
		two, _ := Layer(n, i, other, w)
		three, _ := Layer(n, i, x, more)
		if l.Kind == api.Square {
			squares++
			continue
		}
		if y, is := Layer(n, i, plus(x, other), w); !is || !slices.Equal(y, plus(one, two)) {
			t.Errorf("%v, layer %d: of the sum of pictures %d, not %d", n, i, y, plus(one, two))
		}
		if y, is := Layer(n, i, x, plus(w, more)); l.Kind != api.Pool && (!is || !slices.Equal(y, plus(one, three))) {
			t.Errorf("%v, layer %d: of the sum of weights %d, not %d", n, i, y, plus(one, three))
		}
	}
	if squares == 0 {
		x, w := drawn(t, from, n)
		other, _ := drawn(t, from, n)
		one, _ := F(n, x, w)
		two, _ := F(n, other, w)
		if y, is := F(n, plus(x, other), w); !is || !slices.Equal(y, plus(one, two)) {
			t.Errorf("%v: of the sum of pictures %d, not %d", n, y, plus(one, two))
		}
	}
}

// plus is the sum of two rows, number by number.
func plus(a, b []uint64) []uint64 {
	all := slices.Clone(a)
	for i := range all {
		all[i] += b[i]
	}
	return all
}

// P7.1, P7.2, P7.3: networks of up to MaxLayers layers, drawn so that they are right.
func TestManyLayers(t *testing.T) {
	from, long := uint64(7), 0
	for range 120 {
		n := of(pic(1+draw(&from, 3), 2+draw(&from, 7), 2+draw(&from, 7)))
		if !check.Right(n) {
			continue
		}
		for range 200 {
			l := []api.Layer{conv(1+draw(&from, 4), 1+draw(&from, 3), 1+draw(&from, 3)), square(), pool(1 + draw(&from, 3)), dense(1 + draw(&from, 8))}[draw(&from, 4)]
			if next := of(n.In, append(slices.Clone(n.Layers), l)...); check.Right(next) {
				n = next
			}
		}
		hold(t, &from, n)
		holdCuts(t, &from, n)
		holdSums(t, &from, n)
		if len(n.Layers) == api.MaxLayers {
			long++
		}
	}
	if long < 50 {
		t.Errorf("only %d networks have all layers", long)
	}
}

// P7.2: a Conv, a Pool and a Dense alone, and all three in turn, go over sums; the noughts make noughts.
func TestSums(t *testing.T) {
	from := uint64(74)
	for _, in := range pictures() {
		for _, n := range []api.Net{of(in, conv(2, 2, 1)), of(in, conv(1, 1, 2)), of(in, pool(1)), of(in, pool(2)), of(in, dense(1)), of(in, dense(3)), of(in, conv(1, 2, 2), pool(1), dense(2)), of(in)} {
			if !check.Right(n) {
				continue
			}
			for range 4 {
				holdSums(t, &from, n)
			}
			x, w := drawn(t, &from, n)
			if y, is := F(n, make([]uint64, len(x)), w); !is || slices.Max(y) != 0 {
				t.Errorf("%v of noughts: %d", n, y)
			}
		}
	}
}

// P7.1 (G2): a network without layers makes of x what x is, as new memory; it has no layer.
func TestNoLayers(t *testing.T) {
	from := uint64(75)
	for _, n := range []api.Net{{In: pic(2, 3, 4)}, {In: pic(1, 1, 1), Layers: []api.Layer{}}, {In: pic(8, 4, 4)}} {
		hold(t, &from, n)
		x, _ := drawn(t, &from, n)
		was := slices.Clone(x)
		y, is := F(n, x, []uint64{})
		if !is || !slices.Equal(y, was) {
			t.Errorf("F(%v, %d): %d, %v", n, was, y, is)
		}
		spoil(y, 77)
		if !slices.Equal(x, was) {
			t.Errorf("%v: what comes out is what went in", n)
		}
		none(t, n, 0, x, nil)
		none(t, n, -1, x, nil)
		noneOfAll(t, n, x[1:], nil)
		noneOfAll(t, n, append(x, 1), nil)
		noneOfAll(t, n, x, []uint64{0})
	}
}

// none holds a layer against making nothing.
func none(t *testing.T, n api.Net, i int, x, w []uint64) {
	t.Helper()
	if y, is := Layer(n, i, x, w); is || len(y) != 0 {
		t.Errorf("Layer(%v, %d, %d, %d): %d, %v", n, i, x, w, y, is)
	}
}

// noneOfAll holds a network against making nothing.
func noneOfAll(t *testing.T, n api.Net, x, w []uint64) {
	t.Helper()
	if y, is := F(n, x, w); is || len(y) != 0 {
		t.Errorf("F(%v, %d, %d): %d, %v", n, x, w, y, is)
	}
}

// outside are numbers of which none is 0 to many less 1, both ends of int among them.
func outside(many int) []int {
	return []int{-1, -2, -many - 1, many, many + 1, many + 128, 1000, 1 << 31, 1 << 32, 1<<32 + 1, 1 << 62, -1 << 32, -1 << 62, math.MaxInt - 1, math.MaxInt, math.MinInt, math.MinInt + 1}
}

// others are as many numbers as a few that are not so many: none at all, one less, one more, and far more.
func others(many int) [][]uint64 {
	all := [][]uint64{make([]uint64, many+1), make([]uint64, 2*many+2), make([]uint64, 1000+many)}
	if many > 0 {
		all = append(all, nil, []uint64{}, make([]uint64, many-1), make([]uint64, many-1, many+5))
	}
	return all
}

// P7.1, P1: of layers that there are not, of pictures and weights that are too few or too many there is none.
func TestNoneOfWrongRows(t *testing.T) {
	from := uint64(76)
	for _, n := range []api.Net{
		of(pic(1, 4, 4), conv(2, 3, 1)), of(pic(2, 2, 2), square()), of(pic(2, 2, 4), pool(2)), of(pic(1, 2, 3), dense(2)), of(pic(1, 1, 1), pool(1)), of(pic(8, 4, 4), dense(4)),
		of(pic(1, 4, 4), conv(2, 3, 1), square(), pool(2), dense(4), dense(1)), of(pic(2, 3, 4), pool(1), conv(1, 2, 1), square(), dense(3), square()),
	} {
		hold(t, &from, n)
		x, w := drawn(t, &from, n)
		going := shapes(t, n)
		for i := range n.Layers {
			right := numbers(&from, size(going[i]))
			for _, wrong := range others(len(right)) {
				none(t, n, i, wrong, w)
				none(t, n, i, wrong, nil)
			}
			for _, wrong := range others(len(w)) {
				none(t, n, i, right, wrong)
			}
			// What comes out of a layer, or goes into another one, is none for it, unless it has as many numbers.
			for _, s := range going {
				if size(s) != len(right) {
					none(t, n, i, numbers(&from, size(s)), w)
				}
			}
			// The layer's own weights are not all of them.
			if first, many := check.Weights(n, i); many != len(w) {
				none(t, n, i, right, w[first:first+many])
			}
			for _, far := range outside(len(n.Layers)) {
				none(t, n, far, right, w)
				none(t, n, far, nil, nil)
			}
		}
		for _, wrong := range others(len(x)) {
			noneOfAll(t, n, wrong, w)
			noneOfAll(t, n, wrong, nil)
		}
		for _, wrong := range others(len(w)) {
			noneOfAll(t, n, x, wrong)
		}
	}
}

// P7.1, P1: a network that is not right makes nothing, not even by layers that would fit.
func TestNoneOfWrongNetworks(t *testing.T) {
	in := pic(1, 4, 4)
	for _, n := range []api.Net{
		{},
		{Layers: []api.Layer{square()}},
		of(pic(0, 4, 4), dense(1)), of(pic(9, 1, 1), dense(1)), of(pic(1, 13, 1), pool(1)), of(pic(1, 12, 12), pool(2)), of(pic(-1, 4, 4), square()), of(pic(-1, -1, 1)), of(pic(0, 0, 0), square()),
		of(pic(1<<32, 1<<32, 1), square()), of(pic(math.MaxInt, math.MaxInt, math.MaxInt), dense(1)), of(pic(math.MinInt, 1, 1), pool(1)), of(pic(1<<32, 1<<32, 1)),
		of(in, conv(0, 1, 1)), of(in, conv(9, 4, 1)), of(in, conv(1, 0, 1)), of(in, conv(1, 5, 1)), of(in, conv(1, 1, 0)), of(in, conv(1, 1, 13)),
		of(in, conv(-1, 1, 1)), of(in, conv(1, -1, 1)), of(in, conv(1, 1, -1)), of(in, conv(math.MaxInt, math.MaxInt, math.MaxInt)), of(in, conv(1, math.MinInt, 1)),
		of(in, pool(0)), of(in, pool(3)), of(in, pool(5)), of(in, pool(-1)), of(in, pool(math.MaxInt)), of(in, pool(math.MinInt)),
		of(in, dense(0)), of(in, dense(9)), of(in, dense(-1)), of(in, dense(math.MaxInt)), of(in, dense(math.MinInt)),
		of(in, api.Layer{}), of(in, api.Layer{Kind: 5}), of(in, api.Layer{Kind: -1}), of(in, api.Layer{Kind: api.Square, Size: 1}), of(in, api.Layer{Kind: api.Pool, Size: 2, Step: 2}),
		of(in, api.Layer{Kind: api.Dense, Out: 1, Step: 1}), of(in, api.Layer{Kind: math.MaxInt}), of(in, api.Layer{Kind: math.MinInt}),
		of(in, conv(2, 3, 1), square(), pool(2), dense(9)), of(in, pool(2), dense(3), pool(2)), of(in, pool(2), dense(3), api.Layer{}), of(in, square(), dense(0)),
		of(pic(8, 4, 4), dense(5)), of(pic(8, 4, 4), pool(2), square(), dense(8), dense(8), dense(8), dense(8), dense(8)), of(pic(8, 4, 4), dense(4), square()),
		of(in, slices.Repeat([]api.Layer{pool(1)}, api.MaxLayers+1)...), of(in, slices.Repeat([]api.Layer{square()}, api.MaxLayers+1)...),
	} {
		if check.Right(n) {
			t.Errorf("%v is right", n)
		}
		for _, many := range []int{0, 1, 2, 3, 4, 8, 9, 16, 17, 128, 144} {
			for _, weights := range []int{0, 1, 4, 12, 16, 18, 36, 144, 512, 513, 640} {
				x, w := make([]uint64, many), make([]uint64, weights)
				noneOfAll(t, n, x, w)
				for i := -1; i <= len(n.Layers); i++ {
					none(t, n, i, x, w)
				}
			}
		}
		for _, far := range outside(len(n.Layers)) {
			none(t, n, far, nil, nil)
			none(t, n, far, make([]uint64, 16), nil)
		}
	}
}

// spoil writes over a list, and over its spare room.
func spoil[T any](list []T, with T) {
	for i := range list[:cap(list)] {
		list[:cap(list)][i] = with
	}
}

// P3: the network, the picture and the weights, with their spare room, read afterwards as they read before, whether there is an answer or none; what comes out is new memory, its spare room too, and no call hangs on one ahead of it.
func TestNothingChangedNorKept(t *testing.T) {
	from := uint64(77)
	for _, last := range []api.Layer{dense(3), pool(2), conv(2, 2, 1), square(), dense(9), {Kind: 7}} {
		for many := range 4 {
			layers := []api.Layer{conv(2, 3, 1), square(), last, dense(8), pool(5), {Kind: -3, Out: -4}}
			n := api.Net{In: pic(1, 4, 4), Layers: layers[:many]}
			weights, _ := check.All(n)
			for i := -1; i <= many; i++ {
				x, w := numbers(&from, 40), numbers(&from, weights+20)
				wasLayers, wasX, wasW := slices.Clone(layers), slices.Clone(x), slices.Clone(w)
				for _, goes := range []int{0, 2, 8, 15, 16} {
					calls := []func() ([]uint64, bool){
						func() ([]uint64, bool) { return Layer(n, i, x[:goes], w[:weights]) },
						func() ([]uint64, bool) { return F(n, x[:goes], w[:weights]) },
					}
					for _, call := range calls {
						y, is := call()
						want := slices.Clone(y)
						other, _ := call()
						spoil(y, 77)
						if !slices.Equal(other, want) {
							t.Errorf("%v, layer %d: two answers are one memory", n, i)
						}
						if again, still := call(); is != still || !slices.Equal(again, want) {
							t.Errorf("%v, layer %d: %d, then %d", n, i, want, again)
						}
					}
				}
				if !slices.Equal(layers, wasLayers) || !slices.Equal(x, wasX) || !slices.Equal(w, wasW) || n.In != pic(1, 4, 4) || len(n.Layers) != many {
					t.Errorf("%v, layer %d: what was handed in was changed", n, i)
				}
			}
		}
	}
}

// P3: a row may be picture and weights at once, and is not changed either.
func TestOneRowForBoth(t *testing.T) {
	n := of(pic(1, 2, 2), conv(1, 2, 1), square())
	row := []uint64{1, 2, 3, 1<<64 - 1}
	for range 2 {
		if y, is := F(n, row, row); !is || !slices.Equal(y, []uint64{225}) {
			t.Errorf("%d, %v", y, is)
		}
	}
	holdBy(t, of(pic(2, 2, 2), dense(1)), slices.Repeat(row, 2), slices.Repeat(row, 2))
}

// P3: a network, a picture and weights that are changed by their owner are looked at anew.
func TestLooksAnew(t *testing.T) {
	from := uint64(78)
	n := of(pic(1, 4, 4), conv(2, 3, 1), dense(3))
	x, w := drawn(t, &from, n)
	holdBy(t, n, x, w)
	x[3]++
	holdBy(t, n, x, w)
	w[5]--
	holdBy(t, n, x, w)
	n.Layers[0] = pool(2)
	hold(t, &from, n)
	noneOfAll(t, n, x, w)
	n.Layers[0] = pool(3)
	noneOfAll(t, n, x, w)
	none(t, n, 0, x, nil)
	n.Layers[0] = square()
	hold(t, &from, n)
	n.In = pic(2, 2, 3)
	hold(t, &from, n)
}
