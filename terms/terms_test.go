package terms

import (
	"math"
	"slices"
	"testing"

	"symbolon/api"
	"symbolon/check"
)

func of(in api.Shape, layers ...api.Layer) api.Net { return api.Net{In: in, Layers: layers} }

func pic(c, h, w int) api.Shape { return api.Shape{C: c, H: h, W: w} }

func conv(out, size, step int) api.Layer {
	return api.Layer{Kind: api.Conv, Out: out, Size: size, Step: step}
}

func square() api.Layer { return api.Layer{Kind: api.Square} }

func pool(size int) api.Layer { return api.Layer{Kind: api.Pool, Size: size} }

func dense(out int) api.Layer { return api.Layer{Kind: api.Dense, Out: out} }

// answer is what is to be told of a layer: what comes out, and of each place of it the terms and parts.
type answer struct {
	out   api.Shape
	terms [][]api.Term
	parts [][]int
}

// counter numbers things from a number on, each time it is asked one more.
func counter(next int) func() int {
	return func() int {
		next++
		return next - 1
	}
}

// sheets are so many channels, rows and columns, each place with the number that it is given, in their order.
func sheets(s api.Shape, number func() int) [][][]int {
	all := make([][][]int, s.C)
	for c := range all {
		all[c] = make([][]int, s.H)
		for y := range all[c] {
			all[c][y] = make([]int, s.W)
			for x := range all[c][y] {
				all[c][y][x] = number()
			}
		}
	}
	return all
}

// cut is the square of a sheet whose first row and column are these, row by row.
func cut(sheet [][]int, top, left, size int) []int {
	var all []int
	for _, row := range sheet[top : top+size] {
		all = append(all, row[left:left+size]...)
	}
	return all
}

// corners are the rows and columns at which a square of that size may begin, row by row, each a step behind the one ahead; with how many rows and columns that makes.
func corners(s api.Shape, size, step int) (all [][2]int, h, w int) {
	for top := 0; top+size <= s.H; top += step {
		h, w = h+1, 0
		for left := 0; left+size <= s.W; left += step {
			w++
			all = append(all, [2]int{top, left})
		}
	}
	return all, h, w
}

// convolved is what is to be told of a Conv, window by window: its weights are numbered channel by channel that comes out, in that channel by channel that goes in, row by row.
func convolved(s api.Shape, l api.Layer, weight func() int) answer {
	begins, h, w := corners(s, l.Size, l.Step)
	a := answer{out: pic(l.Out, h, w)}
	picture := sheets(s, counter(0))
	for range l.Out {
		kernels := sheets(pic(s.C, l.Size, l.Size), weight)
		for _, b := range begins {
			var list []api.Term
			for c := range s.C {
				weights := slices.Concat(kernels[c]...)
				for i, x := range cut(picture[c], b[0], b[1], l.Size) {
					list = append(list, api.Term{X: x, W: weights[i]})
				}
			}
			a.terms, a.parts = append(a.terms, list), append(a.parts, nil)
		}
	}
	return a
}

// pooled is what is to be told of a Pool, block by block.
func pooled(s api.Shape, l api.Layer) answer {
	begins, h, w := corners(s, l.Size, l.Size)
	a := answer{out: pic(s.C, h, w)}
	for _, sheet := range sheets(s, counter(0)) {
		for _, b := range begins {
			a.terms, a.parts = append(a.terms, nil), append(a.parts, cut(sheet, b[0], b[1], l.Size))
		}
	}
	return a
}

// told is what is to be told of a layer into which a picture of the shape s goes.
func told(s api.Shape, l api.Layer, weight func() int) answer {
	switch l.Kind {
	case api.Conv:
		return convolved(s, l, weight)
	case api.Pool:
		return pooled(s, l)
	}
	var all []int
	for _, sheet := range sheets(s, counter(0)) {
		all = append(all, slices.Concat(sheet...)...)
	}
	if l.Kind == api.Square {
		a := answer{out: s, parts: make([][]int, len(all))}
		for _, x := range all {
			a.terms = append(a.terms, []api.Term{{X: x, W: -1}})
		}
		return a
	}
	a := answer{out: pic(l.Out, 1, 1), parts: make([][]int, l.Out)}
	for range l.Out {
		var list []api.Term
		for _, x := range all {
			list = append(list, api.Term{X: x, W: weight()})
		}
		a.terms = append(a.terms, list)
	}
	return a
}

// model is what is to be told of each layer of a network that is right.
func model(n api.Net) []answer {
	weight, s := counter(0), n.In
	var all []answer
	for _, l := range n.Layers {
		a := told(s, l, weight)
		all = append(all, a)
		s = a.out
	}
	return all
}

// outside are numbers of which none is 0 to many less 1, both ends of int among them.
func outside(many int) []int {
	return []int{-1, -2, -many - 1, many, many + 1, many + 128, 1000, 1 << 31, 1 << 32, 1<<32 + 1, 1 << 62, -1 << 32, -1 << 62, math.MaxInt - 1, math.MaxInt, math.MinInt, math.MinInt + 1}
}

// none holds a place of a layer against having neither terms nor parts.
func none(t *testing.T, n api.Net, i, at int) {
	t.Helper()
	if l := Terms(n, i, at); len(l) != 0 {
		t.Errorf("Terms(%v, %d, %d): %v", n, i, at, l)
	}
	if l := Parts(n, i, at); len(l) != 0 {
		t.Errorf("Parts(%v, %d, %d): %v", n, i, at, l)
	}
}

// hold holds every place of every layer of a network that is right against the model, with places and layers that there are not.
func hold(t *testing.T, n api.Net) {
	t.Helper()
	if !check.Right(n) {
		t.Fatalf("%v is not right", n)
	}
	for i, want := range model(n) {
		for at := range want.terms {
			if l := Terms(n, i, at); !slices.Equal(l, want.terms[at]) {
				t.Fatalf("Terms(%v, %d, %d): %v, not %v", n, i, at, l, want.terms[at])
			}
			if l := Parts(n, i, at); !slices.Equal(l, want.parts[at]) {
				t.Fatalf("Parts(%v, %d, %d): %v, not %v", n, i, at, l, want.parts[at])
			}
		}
		for _, at := range outside(len(want.terms)) {
			none(t, n, i, at)
		}
	}
	for _, i := range outside(len(n.Layers)) {
		none(t, n, i, 0)
		none(t, n, i, i)
	}
}

// holdOnce holds a layer against P6.2 and P6.3: as many terms as products, each weight in as many as there are places in a channel that comes out, and no other weight; the parts of a Pool all places that go in, each once.
func holdOnce(t *testing.T, n api.Net, i int) {
	t.Helper()
	shapes, _ := check.Shapes(n)
	in, out := shapes[i], shapes[i+1]
	many, weights, parts := 0, map[int]int{}, map[int]int{}
	for at := range out.C * out.H * out.W {
		for _, one := range Terms(n, i, at) {
			many++
			weights[one.W]++
			if one.X < 0 || one.X >= in.C*in.H*in.W {
				t.Errorf("%v, layer %d, place %d: %v does not go in", n, i, at, one)
			}
		}
		for _, x := range Parts(n, i, at) {
			parts[x]++
		}
	}
	if many != check.Products(n, i) {
		t.Errorf("%v, layer %d: %d terms, %d products", n, i, many, check.Products(n, i))
	}
	delete(weights, -1)
	first, has := check.Weights(n, i)
	for w := first; w < first+has; w++ {
		if weights[w] != out.H*out.W {
			t.Errorf("%v, layer %d: weight %d stands in %d terms, not %d", n, i, w, weights[w], out.H*out.W)
		}
	}
	if len(weights) != has {
		t.Errorf("%v, layer %d: terms of %d weights, not %d", n, i, len(weights), has)
	}
	if n.Layers[i].Kind != api.Pool {
		in = api.Shape{}
	}
	for x := range in.C * in.H * in.W {
		if parts[x] != 1 {
			t.Errorf("%v, layer %d: place %d stands in %d blocks", n, i, x, parts[x])
		}
	}
	if len(parts) != in.C*in.H*in.W {
		t.Errorf("%v, layer %d: parts of %d places", n, i, len(parts))
	}
}

// P6.1 (F1): Convs whose terms are written out: the chapter's example; several channels that go in and come out, a step of 2, rows and columns of different number.
func TestConvWrittenOut(t *testing.T) {
	n := of(pic(1, 4, 4), conv(2, 3, 1))
	want := []api.Term{{X: 0, W: 9}, {X: 1, W: 10}, {X: 2, W: 11}, {X: 4, W: 12}, {X: 5, W: 13}, {X: 6, W: 14}, {X: 8, W: 15}, {X: 9, W: 16}, {X: 10, W: 17}}
	if l := Terms(n, 0, 4); !slices.Equal(l, want) {
		t.Errorf("%v, not %v", l, want)
	}
	n = of(pic(2, 4, 5), dense(1), conv(2, 1, 1))
	if l := Terms(n, 1, 1); !slices.Equal(l, []api.Term{{X: 0, W: 41}}) {
		t.Errorf("%v", l)
	}
	n = of(pic(2, 5, 4), conv(3, 2, 2)) // 3 channels of 2 rows and columns
	want = []api.Term{{X: 10, W: 8}, {X: 11, W: 9}, {X: 14, W: 10}, {X: 15, W: 11}, {X: 30, W: 12}, {X: 31, W: 13}, {X: 34, W: 14}, {X: 35, W: 15}}
	if l := Terms(n, 0, 7); !slices.Equal(l, want) {
		t.Errorf("%v, not %v", l, want)
	}
	want = []api.Term{{X: 8, W: 16}, {X: 9, W: 17}, {X: 12, W: 18}, {X: 13, W: 19}, {X: 28, W: 20}, {X: 29, W: 21}, {X: 32, W: 22}, {X: 33, W: 23}}
	if l := Terms(n, 0, 10); !slices.Equal(l, want) {
		t.Errorf("%v, not %v", l, want)
	}
	n = of(pic(1, 2, 5), conv(1, 2, 3)) // 1 row, 2 columns
	want = []api.Term{{X: 3, W: 0}, {X: 4, W: 1}, {X: 8, W: 2}, {X: 9, W: 3}}
	if l := Terms(n, 0, 1); !slices.Equal(l, want) {
		t.Errorf("%v, not %v", l, want)
	}
}

// P6.1 (F1, F2): a Dense, a Square and a Pool, whose terms or parts are written out.
func TestOthersWrittenOut(t *testing.T) {
	n := of(pic(2, 1, 2), square(), dense(2), dense(3))
	for _, c := range []struct {
		i, at int
		want  []api.Term
	}{
		{0, 0, []api.Term{{X: 0, W: -1}}},
		{0, 3, []api.Term{{X: 3, W: -1}}},
		{1, 0, []api.Term{{X: 0, W: 0}, {X: 1, W: 1}, {X: 2, W: 2}, {X: 3, W: 3}}},
		{1, 1, []api.Term{{X: 0, W: 4}, {X: 1, W: 5}, {X: 2, W: 6}, {X: 3, W: 7}}},
		{2, 0, []api.Term{{X: 0, W: 8}, {X: 1, W: 9}}},
		{2, 2, []api.Term{{X: 0, W: 12}, {X: 1, W: 13}}},
	} {
		if l := Terms(n, c.i, c.at); !slices.Equal(l, c.want) {
			t.Errorf("layer %d, place %d: %v, not %v", c.i, c.at, l, c.want)
		}
	}
	n = of(pic(2, 4, 6), pool(2)) // 2 channels of 2 rows, 3 columns
	for at, want := range map[int][]int{0: {0, 1, 6, 7}, 2: {4, 5, 10, 11}, 3: {12, 13, 18, 19}, 7: {26, 27, 32, 33}, 11: {40, 41, 46, 47}} {
		if l := Parts(n, 0, at); !slices.Equal(l, want) {
			t.Errorf("place %d: %v, not %v", at, l, want)
		}
	}
	if l := Parts(of(pic(2, 2, 2), pool(2)), 0, 1); !slices.Equal(l, []int{4, 5, 6, 7}) {
		t.Errorf("a block of all: %v", l)
	}
	if l := Parts(of(pic(2, 2, 2), pool(1)), 0, 5); !slices.Equal(l, []int{5}) {
		t.Errorf("a block of one place: %v", l)
	}
}

// pictures are such of one and several channels, with as many rows as columns, with more, with fewer, with just one, and as great as may be.
func pictures() []api.Shape {
	return []api.Shape{
		pic(1, 1, 1), pic(8, 1, 1), pic(1, 4, 4), pic(1, 3, 7), pic(1, 7, 3), pic(2, 5, 6), pic(3, 6, 4), pic(4, 3, 3),
		pic(1, 12, 10), pic(1, 10, 12), pic(1, 1, 12), pic(2, 12, 1), pic(8, 4, 4), pic(2, 8, 8), pic(1, 11, 11), pic(3, 4, 8),
	}
}

// P6.1 (F1), P6.2: Convs alone, of all sizes of windows from one place to as wide as what goes in, all steps, and all numbers of channels that are right.
func TestConvAlone(t *testing.T) {
	right := map[string]int{}
	for _, in := range pictures() {
		for out := range api.MaxC + 1 {
			for size := range api.MaxSide + 1 {
				for step := range api.MaxSide + 1 {
					n := of(in, conv(out, size, step))
					if !check.Right(n) {
						continue
					}
					hold(t, n)
					holdOnce(t, n, 0)
					side := min(in.H, in.W)
					count(right, map[string]bool{
						"one place": size == 1 && side > 1, "in between": size > 1 && size < side, "as wide": size > 1 && size == side,
						"step 1": step == 1, "step 2": step == 2, "a step beyond": step > side, "wide": in.W > in.H, "tall": in.H > in.W,
						"one in": in.C == 1, "several in": in.C > 1, "one out": out == 1, "several out": out > 1, "several in and out": in.C > 1 && out > 1 && size > 1,
					})
				}
			}
		}
	}
	for what, many := range right {
		if many < 5 {
			t.Errorf("%s: only %d networks", what, many)
		}
	}
}

// count notes what holds.
func count(many map[string]int, holds map[string]bool) {
	for what, is := range holds {
		if is {
			many[what]++
		} else {
			many[what] += 0
		}
	}
}

// P6.1 (F1, F2), P6.2, P6.3: a Dense, a Square and a Pool alone, of one and several channels; blocks of one place, in between, and of all rows and columns.
func TestOthersAlone(t *testing.T) {
	blocks := map[string]int{}
	for _, in := range pictures() {
		layers := []api.Layer{square()}
		for out := range api.MaxC + 1 {
			layers = append(layers, dense(out))
		}
		for size := range api.MaxSide + 1 {
			layers = append(layers, pool(size))
		}
		for _, l := range layers {
			n := of(in, l)
			if !check.Right(n) {
				continue
			}
			hold(t, n)
			holdOnce(t, n, 0)
			if l.Kind == api.Pool {
				side := max(in.H, in.W)
				count(blocks, map[string]bool{"one place": l.Size == 1 && side > 1, "in between": l.Size > 1 && l.Size < side, "all": l.Size > 1 && l.Size == in.H && l.Size == in.W, "several channels": in.C > 1})
			}
		}
	}
	for what, many := range blocks {
		if many < 4 {
			t.Errorf("%s: only %d networks", what, many)
		}
	}
}

// P6.1, P6.2, P6.3: each kind first, in between and last: all orders of up to three layers that are right, of several numbers each.
func TestOrders(t *testing.T) {
	choices := []api.Layer{conv(2, 2, 1), conv(3, 1, 2), square(), pool(1), pool(2), dense(1), dense(3)}
	came := map[[2]int]int{}
	var longer func(n api.Net)
	longer = func(n api.Net) {
		if !check.Right(n) {
			return
		}
		hold(t, n)
		for i, l := range n.Layers {
			holdOnce(t, n, i)
			if len(n.Layers) > 2 {
				came[[2]int{l.Kind, min(i, 1) + i/(len(n.Layers)-1)}]++
			}
		}
		if len(n.Layers) == 3 {
			return
		}
		for _, l := range choices {
			longer(of(n.In, append(slices.Clone(n.Layers), l)...))
		}
	}
	longer(of(pic(1, 4, 6)))
	longer(of(pic(2, 5, 3)))
	for kind := api.Conv; kind <= api.Dense; kind++ {
		for place := range 3 {
			if came[[2]int{kind, place}] < 20 {
				t.Errorf("kind %d came %d times at place %d", kind, came[[2]int{kind, place}], place)
			}
		}
	}
}

// draw is a number below n, and what the next one is drawn from.
func draw(from *uint64, n int) int {
	*from = *from*6364136223846793005 + 1442695040888963407
	return int(*from >> 33 % uint64(n))
}

// P6.1, P6.2, P6.3: networks of up to MaxLayers layers, drawn so that they are right.
func TestManyLayers(t *testing.T) {
	from, long := uint64(6), 0
	for range 120 {
		n := of(pic(1+draw(&from, 3), 2+draw(&from, 7), 2+draw(&from, 7)))
		if !check.Right(n) {
			continue
		}
		for range 200 {
			l := []api.Layer{conv(1+draw(&from, 4), 1+draw(&from, 3), 1+draw(&from, 3)), square(), pool(1 + draw(&from, 3)), dense(1 + draw(&from, 8))}[draw(&from, 4)]
			if next := of(n.In, append(slices.Clone(n.Layers), l)...); check.Right(next) {
				n = next
			}
		}
		hold(t, n)
		for i := range n.Layers {
			holdOnce(t, n, i)
		}
		if len(n.Layers) == api.MaxLayers {
			long++
		}
	}
	if long < 50 {
		t.Errorf("only %d networks have all layers", long)
	}
}

// P6.1 (F1): the weights of a layer begin where those of all layers ahead end, whatever stands in between.
func TestWeightsBeginBehind(t *testing.T) {
	n := of(pic(2, 4, 4), conv(2, 2, 1), pool(1), conv(1, 2, 1), square(), dense(3), dense(2))
	for i, want := range []int{0, 0, 16, -1, 24, 36} {
		if l := Terms(n, i, 0); n.Layers[i].Kind != api.Pool && l[0].W != want {
			t.Errorf("layer %d begins at %d, not %d", i, l[0].W, want)
		}
	}
	hold(t, n)
}

// P6.1: what a layer's numbers are made of does not hang on the layers behind it.
func TestLayersBehind(t *testing.T) {
	n := of(pic(1, 4, 4), conv(2, 3, 1), square(), pool(2), dense(4))
	for many := 1; many < len(n.Layers); many++ {
		short := of(n.In, n.Layers[:many]...)
		for i := range many {
			for at := range 10 {
				if a, b := Terms(n, i, at), Terms(short, i, at); !slices.Equal(a, b) {
					t.Errorf("layer %d, place %d: %v, and cut behind layer %d %v", i, at, a, many, b)
				}
				if a, b := Parts(n, i, at), Parts(short, i, at); !slices.Equal(a, b) {
					t.Errorf("layer %d, place %d: %v, and cut behind layer %d %v", i, at, a, many, b)
				}
			}
		}
		none(t, short, many, 0)
	}
}

// P6.1, P1: a network that is not right has none of all that, not even of layers that would fit.
func TestNothingOfWrongNetworks(t *testing.T) {
	in := pic(1, 4, 4)
	for _, n := range []api.Net{
		{},
		{Layers: []api.Layer{square()}},
		of(pic(0, 4, 4), dense(1)), of(pic(9, 1, 1), dense(1)), of(pic(1, 13, 1), pool(1)), of(pic(1, 12, 12), pool(2)), of(pic(-1, 4, 4), square()),
		of(pic(1<<32, 1<<32, 1), square()), of(pic(math.MaxInt, math.MaxInt, math.MaxInt), dense(1)), of(pic(math.MinInt, 1, 1), pool(1)),
		of(in, conv(0, 1, 1)), of(in, conv(9, 4, 1)), of(in, conv(1, 0, 1)), of(in, conv(1, 5, 1)), of(in, conv(1, 1, 0)), of(in, conv(1, 1, 13)),
		of(in, conv(-1, 1, 1)), of(in, conv(1, -1, 1)), of(in, conv(1, 1, -1)), of(in, conv(math.MaxInt, math.MaxInt, math.MaxInt)), of(in, conv(1, math.MinInt, 1)),
		of(in, pool(0)), of(in, pool(3)), of(in, pool(5)), of(in, pool(-1)), of(in, pool(math.MaxInt)), of(in, pool(math.MinInt)),
		of(in, dense(0)), of(in, dense(9)), of(in, dense(-1)), of(in, dense(math.MaxInt)), of(in, dense(math.MinInt)),
		of(in, api.Layer{}), of(in, api.Layer{Kind: 5}), of(in, api.Layer{Kind: -1}), of(in, api.Layer{Kind: api.Square, Size: 1}), of(in, api.Layer{Kind: api.Pool, Size: 2, Step: 2}),
		of(in, api.Layer{Kind: api.Dense, Out: 1, Step: 1}), of(in, api.Layer{Kind: math.MaxInt}), of(in, api.Layer{Kind: math.MinInt}),
		of(in, conv(2, 3, 1), square(), pool(2), dense(9)), of(in, pool(2), dense(3), pool(2)), of(in, pool(2), dense(3), api.Layer{}), of(in, square(), dense(0)),
		of(pic(8, 4, 4), dense(5)), of(pic(8, 4, 4), pool(2), square(), dense(8), dense(8), dense(8), dense(8), dense(8)), of(pic(8, 4, 4), dense(4), square()),
		of(in, slices.Repeat([]api.Layer{pool(1)}, api.MaxLayers+1)...), of(in, slices.Repeat([]api.Layer{square()}, api.MaxLayers+1)...),
	} {
		if check.Right(n) {
			t.Errorf("%v is right", n)
		}
		for i := -1; i <= len(n.Layers); i++ {
			for at := -1; at <= api.MaxSize; at++ {
				none(t, n, i, at)
			}
			for _, far := range outside(0) {
				none(t, n, i, far)
				none(t, n, far, i)
				none(t, n, far, far)
			}
		}
	}
}

// P6.1, P1: a network without layers has none of all that.
func TestNoLayers(t *testing.T) {
	for _, n := range []api.Net{{In: pic(2, 3, 4)}, {In: pic(1, 1, 1), Layers: []api.Layer{}}} {
		hold(t, n)
		for at := -1; at < 25; at++ {
			none(t, n, 0, at)
			none(t, n, -1, at)
		}
	}
}

// P6.1: places of what goes in, and of other layers, that do not come out of this one.
func TestPlacesOfOtherLayers(t *testing.T) {
	n := of(pic(1, 4, 4), pool(2), conv(2, 2, 1), dense(4), dense(1))
	for i, many := range []int{4, 2, 4, 1} {
		for at := many; at <= 16; at++ {
			none(t, n, i, at)
		}
		if l := Terms(n, i, many-1); (len(l) == 0) != (i == 0) {
			t.Errorf("layer %d, place %d: %v", i, many-1, l)
		}
	}
}

// P3: the network, with its spare room, reads afterwards as it read before, whether it is right or not; what comes out is new memory, its spare room too, and no call hangs on one ahead of it.
func TestNothingChangedNorKept(t *testing.T) {
	for _, last := range []api.Layer{dense(3), pool(2), conv(2, 2, 1), square(), dense(9), {Kind: 7}} {
		room := []api.Layer{conv(2, 3, 1), square(), last, dense(8), pool(5), {Kind: -3, Out: -4}}
		was := slices.Clone(room)
		n := api.Net{In: pic(1, 4, 4), Layers: room[:3]}
		for i := -1; i <= 3; i++ {
			for at := -1; at < 10; at++ {
				terms, parts := Terms(n, i, at), Parts(n, i, at)
				wantTerms, wantParts := slices.Clone(terms), slices.Clone(parts)
				otherTerms, otherParts := Terms(n, i, at), Parts(n, i, at)
				spoil(terms, api.Term{X: -7, W: -8})
				spoil(parts, -7)
				if !slices.Equal(otherTerms, wantTerms) || !slices.Equal(Terms(n, i, at), wantTerms) {
					t.Errorf("Terms(%v, %d, %d): %v, then %v", n, i, at, wantTerms, otherTerms)
				}
				if !slices.Equal(otherParts, wantParts) || !slices.Equal(Parts(n, i, at), wantParts) {
					t.Errorf("Parts(%v, %d, %d): %v, then %v", n, i, at, wantParts, otherParts)
				}
			}
		}
		if !slices.Equal(room, was) || n.In != pic(1, 4, 4) || len(n.Layers) != 3 {
			t.Errorf("%v was changed to %v", was, room)
		}
	}
}

// spoil writes over a list, and over its spare room.
func spoil[T any](list []T, with T) {
	for i := range list[:cap(list)] {
		list[:cap(list)][i] = with
	}
}

// P3: a network that is changed by its owner is looked at anew.
func TestLooksAnew(t *testing.T) {
	n := of(pic(1, 4, 4), conv(2, 3, 1), dense(3))
	hold(t, n)
	n.Layers[0] = pool(2)
	hold(t, n)
	n.Layers[0] = pool(3)
	none(t, n, 0, 0)
	none(t, n, 1, 0)
	n.Layers[0] = square()
	hold(t, n)
	n.In = pic(2, 2, 3)
	hold(t, n)
}
