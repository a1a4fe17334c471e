package check

import (
	"math"
	"slices"
	"testing"

	"symbolon/api"
	"symbolon/shape"
)

// answer is what is to be told of a network: what is wrong, or the shapes, and each layer's weights and products.
type answer struct {
	e        api.Errno
	shapes   []api.Shape
	weights  []int
	products []int
}

func of(in api.Shape, layers ...api.Layer) api.Net { return api.Net{In: in, Layers: layers} }

func pic(c, h, w int) api.Shape { return api.Shape{C: c, H: h, W: w} }

func conv(out, size, step int) api.Layer {
	return api.Layer{Kind: api.Conv, Out: out, Size: size, Step: step}
}

func square() api.Layer { return api.Layer{Kind: api.Square} }

func pool(size int) api.Layer { return api.Layer{Kind: api.Pool, Size: size} }

func dense(out int) api.Layer { return api.Layer{Kind: api.Dense, Out: out} }

// formed: has a network a form? (Told once more, apart from the program.)
func formed(n api.Net) bool {
	may := func(numbers ...int) bool {
		return !slices.ContainsFunc(numbers, func(x int) bool { return x < 0 || x > 999999 })
	}
	if !may(n.In.C, n.In.H, n.In.W) || len(n.Layers) > 8 {
		return false
	}
	for _, l := range n.Layers {
		switch {
		case l.Kind == 1 && may(l.Out, l.Size, l.Step):
		case l.Kind == 2 && l.Out == 0 && l.Size == 0 && l.Step == 0:
		case l.Kind == 3 && l.Out == 0 && may(l.Size) && l.Step == 0:
		case l.Kind == 4 && may(l.Out) && l.Size == 0 && l.Step == 0:
		default:
			return false
		}
	}
	return true
}

func rightShape(s api.Shape) bool {
	return s.C >= 1 && s.C <= 8 && s.H >= 1 && s.H <= 12 && s.W >= 1 && s.W <= 12 && s.C*s.H*s.W <= 128
}

// steps is how often a window of that size stands in a side, each so far behind the one ahead.
func steps(side, size, step int) int {
	many := 0
	for at := 0; at+size <= side; at += step {
		many++
	}
	return many
}

// after is what a layer makes of a picture of the shape s: the shape, its weights, its products, all of them counted; false, if it does not fit.
func after(s api.Shape, l api.Layer) (api.Shape, int, int, bool) {
	weights, products := 0, 0
	switch l.Kind {
	case api.Conv:
		if l.Out < 1 || l.Out > 8 || l.Size < 1 || l.Size > s.H || l.Size > s.W || l.Step < 1 || l.Step > 12 {
			return api.Shape{}, 0, 0, false
		}
		to := pic(l.Out, steps(s.H, l.Size, l.Step), steps(s.W, l.Size, l.Step))
		for range l.Out {
			for range s.C {
				for range l.Size {
					for range l.Size {
						weights++
						for range to.H {
							products += to.W
						}
					}
				}
			}
		}
		return to, weights, products, rightShape(to)
	case api.Square:
		return s, 0, s.C * s.H * s.W, true
	case api.Pool:
		if l.Size < 1 || steps(s.H, l.Size, l.Size)*l.Size != s.H || steps(s.W, l.Size, l.Size)*l.Size != s.W {
			return api.Shape{}, 0, 0, false
		}
		return pic(s.C, steps(s.H, l.Size, l.Size), steps(s.W, l.Size, l.Size)), 0, 0, true
	}
	for range l.Out {
		weights += s.C * s.H * s.W
	}
	return pic(l.Out, 1, 1), weights, weights, l.Out >= 1 && l.Out <= 8
}

// model is what is to be told of a network.
func model(n api.Net) answer {
	if !formed(n) {
		return answer{e: api.ErrForm}
	}
	if !rightShape(n.In) {
		return answer{e: api.ErrArg}
	}
	a := answer{shapes: []api.Shape{n.In}}
	s, allWeights, allProducts := n.In, 0, 0
	for _, l := range n.Layers {
		to, weights, products, fits := after(s, l)
		if !fits {
			return answer{e: api.ErrShape}
		}
		s = to
		a.shapes = append(a.shapes, to)
		a.weights = append(a.weights, weights)
		a.products = append(a.products, products)
		allWeights += weights
		allProducts += products
	}
	if allWeights > 512 || allProducts > 512 {
		return answer{e: api.ErrFull}
	}
	return a
}

// absent are layers that a network of so many layers has not.
func absent(many int) []int {
	return []int{-1, -2, -many, many, many + 1, 8, 9, 1000, 1 << 32, -1 << 32, math.MaxInt - 1, math.MaxInt, math.MinInt, math.MinInt + 1}
}

// hold holds every answer about n against the model, layers that there are not too.
func hold(t *testing.T, n api.Net) answer {
	t.Helper()
	want := model(n)
	shapes, e := Shapes(n)
	if e != want.e || !slices.Equal(shapes, want.shapes) {
		t.Errorf("Shapes(%v): %v, %d, not %v, %d", n, shapes, e, want.shapes, want.e)
	}
	if got := Right(n); got != (want.e == api.OK) {
		t.Errorf("Right(%v): %v, where Shapes is %d", n, got, want.e)
	}
	weights, products := 0, 0
	for i := range want.weights {
		if from, many := Weights(n, i); from != weights || many != want.weights[i] {
			t.Errorf("Weights(%v, %d): %d, %d, not %d, %d", n, i, from, many, weights, want.weights[i])
		}
		if got := Products(n, i); got != want.products[i] {
			t.Errorf("Products(%v, %d): %d, not %d", n, i, got, want.products[i])
		}
		weights += want.weights[i]
		products += want.products[i]
	}
	if w, p := All(n); w != weights || p != products {
		t.Errorf("All(%v): %d, %d, not %d, %d", n, w, p, weights, products)
	}
	none := absent(len(n.Layers))
	if want.e != api.OK {
		for i := range n.Layers {
			none = append(none, i)
		}
	}
	for _, i := range none {
		if i >= 0 && i < len(want.weights) {
			continue
		}
		if from, many := Weights(n, i); from != 0 || many != 0 {
			t.Errorf("Weights(%v, %d): %d, %d, where there is none", n, i, from, many)
		}
		if got := Products(n, i); got != 0 {
			t.Errorf("Products(%v, %d): %d, where there is none", n, i, got)
		}
	}
	return want
}

// wantError holds a network against what is wrong with it; every other answer about it is zero.
func wantError(t *testing.T, n api.Net, e api.Errno) {
	t.Helper()
	if got := hold(t, n); got.e != e {
		t.Errorf("%v: the model says %d, the test %d", n, got.e, e)
	}
	shapes, got := Shapes(n)
	if got != e || len(shapes) != 0 {
		t.Errorf("Shapes(%v): %v, %d, not none and %d", n, shapes, got, e)
	}
	if Right(n) {
		t.Errorf("%v is right", n)
	}
	if w, p := All(n); w != 0 || p != 0 {
		t.Errorf("All(%v): %d, %d beside error %d", n, w, p, e)
	}
}

// wantRight holds a network against being right, and against all its weights and products.
func wantRight(t *testing.T, n api.Net, weights, products int) {
	t.Helper()
	hold(t, n)
	if shapes, e := Shapes(n); e != api.OK || len(shapes) != len(n.Layers)+1 {
		t.Errorf("Shapes(%v): %v, %d", n, shapes, e)
	}
	if w, p := All(n); w != weights || p != products {
		t.Errorf("All(%v): %d, %d, not %d, %d", n, w, p, weights, products)
	}
}

// beyond are numbers that are none of a network's, some of which go round to one in fewer bits.
func beyond() []int {
	return []int{-1, -2, -999999, 1000000, 1000001, 1 << 31, 1 << 32, 1<<32 + 1, -1<<32 + 1, math.MaxInt, math.MinInt, math.MinInt + 1}
}

// P5.1: the chapter's example, and the document's.
func TestExamples(t *testing.T) {
	n := of(pic(1, 4, 4), conv(2, 3, 1), dense(3))
	shapes, e := Shapes(n)
	if e != api.OK || !slices.Equal(shapes, []api.Shape{pic(1, 4, 4), pic(2, 2, 2), pic(3, 1, 1)}) {
		t.Error(shapes, e)
	}
	if from, many := Weights(n, 0); from != 0 || many != 18 {
		t.Error(from, many)
	}
	if from, many := Weights(n, 1); from != 18 || many != 24 {
		t.Error(from, many)
	}
	if Products(n, 0) != 72 || Products(n, 1) != 24 {
		t.Error(Products(n, 0), Products(n, 1))
	}
	wantRight(t, n, 42, 96)
	wantRight(t, of(pic(1, 4, 4), conv(2, 3, 1)), 18, 72)
}

// P5.1 (E1, E2): In without a form, each number just beyond its limits and far from them, whatever the layers are.
func TestInWithoutForm(t *testing.T) {
	for _, x := range beyond() {
		for _, in := range []api.Shape{pic(x, 2, 2), pic(2, x, 2), pic(2, 2, x), pic(x, x, x), pic(x, 0, 0), pic(999999, x, 0)} {
			wantError(t, of(in), api.ErrForm)
			wantError(t, of(in, square()), api.ErrForm)
			wantError(t, of(in, dense(9), square()), api.ErrForm)
		}
	}
}

// P5.1 (E1, E2): layers without a form (kinds that are none, numbers beyond the limits, numbers that the kind does not have), the first, one in between, the last.
func TestLayerWithoutForm(t *testing.T) {
	var bad []api.Layer
	for _, kind := range []int{0, 5, 6, -1, -2, 256 + api.Square, 1<<32 + api.Square, math.MaxInt, math.MinInt, math.MinInt + api.Square} {
		bad = append(bad, api.Layer{Kind: kind}, api.Layer{Kind: kind, Out: 1, Size: 1, Step: 1})
	}
	for _, x := range beyond() {
		bad = append(bad, conv(x, 1, 1), conv(1, x, 1), conv(1, 1, x), pool(x), dense(x))
	}
	for _, x := range append(beyond(), 1, 2, 999999) {
		for _, l := range []api.Layer{square(), pool(1), dense(1)} {
			for _, at := range []*int{&l.Out, &l.Size, &l.Step} {
				if was := *at; was == 0 {
					*at = x
					bad = append(bad, l)
					*at = was
				}
			}
		}
	}
	for _, l := range bad {
		wantError(t, of(pic(2, 2, 2), l), api.ErrForm)
		wantError(t, of(pic(2, 2, 2), l, square(), square()), api.ErrForm)
		wantError(t, of(pic(2, 2, 2), square(), l, square()), api.ErrForm)
		wantError(t, of(pic(2, 2, 2), square(), square(), l), api.ErrForm)
	}
}

// P5.1 (E1): as many layers as there may be, and more.
func TestHowManyLayers(t *testing.T) {
	for many := range 20 {
		for _, l := range []api.Layer{square(), pool(1), conv(1, 1, 1), dense(1)} {
			n := of(pic(1, 2, 2), slices.Repeat([]api.Layer{l}, many)...)
			if many > api.MaxLayers {
				wantError(t, n, api.ErrForm)
				continue
			}
			hold(t, n)
			if !Right(n) {
				t.Errorf("%v is not right", n)
			}
		}
	}
	wantError(t, of(pic(1, 2, 2), make([]api.Layer, 9)...), api.ErrForm)
	wantError(t, of(pic(0, 2, 2), slices.Repeat([]api.Layer{dense(9)}, 9)...), api.ErrForm)
	wantError(t, of(pic(1, 2, 2), slices.Repeat([]api.Layer{square()}, 100000)...), api.ErrForm)
}

// P5.1 (E1, E2): an In that has a form, and is right or not: each side none, least, greatest, one more; the whole as great as may be, and more.
func TestIn(t *testing.T) {
	for _, in := range []api.Shape{{}, pic(0, 1, 1), pic(1, 0, 1), pic(1, 1, 0), pic(9, 1, 1), pic(1, 13, 1), pic(1, 1, 13), pic(999999, 1, 1), pic(1, 999999, 1), pic(1, 1, 999999),
		pic(999999, 999999, 999999), pic(1, 12, 11), pic(1, 12, 12), pic(8, 12, 12), pic(3, 12, 4), pic(8, 1, 17), pic(3, 11, 4)} {
		wantError(t, of(in), api.ErrArg)
		wantError(t, of(in, square()), api.ErrArg)
		wantError(t, of(in, pool(1), dense(1)), api.ErrArg)
	}
	for c := range 10 {
		for h := range 14 {
			for w := range 14 {
				hold(t, of(pic(c, h, w)))
				hold(t, of(pic(c, h, w), pool(1)))
			}
		}
	}
	wantRight(t, of(pic(1, 1, 1)), 0, 0)
	wantRight(t, of(pic(8, 4, 4)), 0, 0)
	wantRight(t, of(pic(1, 12, 10)), 0, 0)
	wantRight(t, of(pic(1, 10, 12)), 0, 0)
	wantRight(t, api.Net{In: pic(2, 3, 4), Layers: []api.Layer{}}, 0, 0)
	wantRight(t, api.Net{In: pic(2, 3, 4)}, 0, 0)
}

// misfits are layers that have a form, but do not fit behind a picture of 2 channels, 4 rows and 6 columns.
func misfits() []api.Layer {
	return []api.Layer{
		conv(0, 1, 1), conv(9, 1, 1), conv(999999, 1, 1), // channels
		conv(1, 0, 1), conv(1, 5, 1), conv(1, 6, 1), conv(1, 7, 1), conv(1, 999999, 1), // a window's size
		conv(1, 1, 0), conv(1, 1, 13), conv(1, 4, 13), conv(1, 1, 999999), // steps
		conv(6, 1, 1), conv(8, 1, 1), conv(0, 0, 0), // what comes out is too great; nothing at all
		pool(0), pool(3), pool(4), pool(5), pool(6), pool(12), pool(24), pool(999999),
		dense(0), dense(9), dense(10), dense(129), dense(999999),
	}
}

// P5.1 (E1, E2): a layer of each kind that does not fit: the first, one in between, the last, each of eight. (A Square fits everywhere.)
func TestLayerThatDoesNotFit(t *testing.T) {
	in := pic(2, 4, 6)
	for _, l := range misfits() {
		wantError(t, of(in, l), api.ErrShape)
		wantError(t, of(in, l, square(), dense(1)), api.ErrShape)
		wantError(t, of(in, square(), l, dense(1)), api.ErrShape)
		wantError(t, of(in, pool(1), square(), l), api.ErrShape)
		wantError(t, of(in, conv(2, 1, 1), l), api.ErrShape)
		for at := range api.MaxLayers {
			n := of(in, slices.Repeat([]api.Layer{pool(1)}, api.MaxLayers)...)
			n.Layers[at] = l
			wantError(t, n, api.ErrShape)
		}
	}
}

// P5.1 (E1), P5.2: layers that fit In, but not what comes to them, and such that fit only what comes.
func TestFitsByWhatComes(t *testing.T) {
	wantRight(t, of(pic(1, 6, 6), pool(3)), 0, 0)
	wantError(t, of(pic(1, 6, 6), pool(3), pool(3)), api.ErrShape)
	wantError(t, of(pic(1, 6, 6), dense(2), pool(3)), api.ErrShape)
	wantError(t, of(pic(1, 6, 6), dense(2), pool(2)), api.ErrShape)
	wantError(t, of(pic(1, 6, 6), dense(2), conv(1, 2, 1)), api.ErrShape)
	wantError(t, of(pic(1, 6, 6), conv(1, 5, 1), conv(1, 3, 1)), api.ErrShape)
	wantError(t, of(pic(1, 5, 5), pool(2)), api.ErrShape)
	wantRight(t, of(pic(1, 5, 5), conv(1, 2, 1), pool(2)), 4, 64)
	wantError(t, of(pic(2, 8, 8), conv(8, 1, 1)), api.ErrShape)
	wantRight(t, of(pic(2, 8, 8), pool(2), conv(8, 1, 1)), 16, 256)
	wantRight(t, of(pic(1, 4, 4), dense(8), conv(8, 1, 12), pool(1), dense(1)), 128+64+8, 128+64+8)
}

// P5.1 (E1): a Dense of no channels, of one, of MaxC, and of one more.
func TestDenseChannels(t *testing.T) {
	for _, in := range []api.Shape{pic(1, 1, 1), pic(8, 1, 1), pic(1, 8, 8), pic(1, 5, 11)} {
		size := in.C * in.H * in.W
		wantError(t, of(in, dense(0)), api.ErrShape)
		wantRight(t, of(in, dense(1)), size, size)
		wantRight(t, of(in, dense(api.MaxC)), 8*size, 8*size)
		wantError(t, of(in, dense(api.MaxC+1)), api.ErrShape)
		shapes, _ := Shapes(of(in, dense(api.MaxC)))
		if !slices.Equal(shapes, []api.Shape{in, pic(8, 1, 1)}) {
			t.Errorf("%v: %v", in, shapes)
		}
	}
}

// P5.1 (E1): just MaxWeights weights, and one more; just MaxGates products, and one more, of each kind of layer that has some.
func TestFull(t *testing.T) {
	wantRight(t, of(pic(8, 4, 4), dense(4)), 512, 512)
	wantRight(t, of(pic(8, 3, 5), dense(4), dense(4), dense(4)), 512, 512)
	wantError(t, of(pic(8, 3, 5), dense(4), dense(3), dense(7)), api.ErrFull) // 480, 12 and 21: 513
	wantRight(t, of(pic(8, 3, 5), dense(4), dense(3), dense(6)), 510, 510)
	wantError(t, of(pic(8, 4, 4), dense(5)), api.ErrFull)

	wantRight(t, of(pic(8, 4, 4), square(), square(), square(), square()), 0, 512)
	wantRight(t, of(pic(3, 6, 6), square(), square(), square(), square(), pool(2), square(), square()), 0, 486)
	wantError(t, of(pic(3, 6, 6), square(), square(), square(), square(), pool(2), square(), square(), square()), api.ErrFull) // 432 and 81: 513
	wantError(t, of(pic(8, 4, 4), square(), square(), square(), square(), square()), api.ErrFull)

	wantRight(t, of(pic(1, 5, 5), conv(8, 2, 1)), 32, 512)
	wantRight(t, of(pic(1, 8, 8), slices.Repeat([]api.Layer{conv(1, 1, 1)}, 8)...), 8, 512)
	wantRight(t, of(pic(1, 8, 8), conv(8, 8, 1)), 512, 512)
	wantError(t, of(pic(4, 4, 4), conv(3, 2, 1), conv(3, 1, 1)), api.ErrFull) // 432 and 81: 513
	wantRight(t, of(pic(4, 4, 4), conv(3, 2, 1), conv(2, 1, 1)), 54, 486)
	wantError(t, of(pic(1, 5, 5), conv(8, 2, 1), dense(1)), api.ErrFull)
	wantError(t, of(pic(8, 4, 4), dense(4), square()), api.ErrFull)
	wantError(t, of(pic(8, 4, 4), square(), dense(4)), api.ErrFull)
	wantRight(t, of(pic(8, 4, 4), dense(4), pool(1), pool(1)), 512, 512)
}

// P5.1 (E1): sums of several layers around MaxGates, from two below it to two above it.
func TestFullBySum(t *testing.T) {
	seen := map[int]bool{}
	for h := 1; h <= 12; h++ {
		for w := h; w <= 12 && h*w <= 128; w++ {
			for a := 1; a <= 8; a++ {
				for b := 1; b <= 8; b++ {
					for c := 1; c <= 8; c++ {
						sum := h*w*a + a + a*b + b*c
						if sum < 510 || sum > 514 {
							continue
						}
						seen[sum] = true
						n := of(pic(1, h, w), dense(a), square(), dense(b), dense(c))
						if got := hold(t, n); (got.e == api.OK) != (sum <= 512) {
							t.Errorf("%v: %d products, and the model says %d", n, sum, got.e)
						}
					}
				}
			}
		}
	}
	for sum := 510; sum <= 514; sum++ {
		if !seen[sum] {
			t.Errorf("no network of %d products was asked", sum)
		}
	}
}

// P5.1 (E1): of several faults the one that the chapter names first is told, wherever they stand.
func TestSeveralFaults(t *testing.T) {
	bad := api.Layer{Kind: 7}
	good, wrong, none := pic(8, 4, 4), pic(0, 4, 4), pic(-1, 4, 4)
	full, misfit := dense(5), pool(3)
	for _, c := range []struct {
		n api.Net
		e api.Errno
	}{
		{of(none, misfit, full), api.ErrForm},
		{of(wrong, bad), api.ErrForm},
		{of(wrong, misfit, full, bad), api.ErrForm},
		{of(good, misfit, bad), api.ErrForm},
		{of(good, full, bad), api.ErrForm},
		{of(good, bad, misfit), api.ErrForm},
		{of(wrong, misfit), api.ErrArg},
		{of(wrong, full), api.ErrArg},
		{of(wrong, full, misfit), api.ErrArg},
		{of(pic(9, 12, 12), dense(8), pool(0)), api.ErrArg},
		{of(good, full, misfit), api.ErrShape},
		{of(good, misfit, full), api.ErrShape},
		{of(good, full, square(), dense(0)), api.ErrShape},
		{of(good, dense(8), dense(8), conv(1, 2, 1)), api.ErrShape},
		{of(good, square(), square(), square(), square(), square(), square(), square(), dense(9)), api.ErrShape},
		{of(good, full), api.ErrFull},
		{of(good, full, square()), api.ErrFull},
	} {
		wantError(t, c.n, c.e)
	}
}

// choices are layers of each kind, such that fit often and such that fit never.
func choices() []api.Layer {
	return []api.Layer{
		conv(1, 1, 1), conv(2, 2, 1), conv(3, 2, 2), conv(2, 3, 1), conv(1, 3, 3), conv(8, 1, 12), conv(8, 1, 13), conv(9, 1, 1),
		square(), pool(1), pool(2), pool(3), pool(0),
		dense(0), dense(1), dense(3), dense(8), dense(9),
		{}, {Kind: api.Square, Out: 1}, dense(-1),
	}
}

// P5.1, P5.2, P5.3: no layer, each kind alone, and all kinds in all orders up to three, held against the model; how often each error came is looked at, so that none is left out.
func TestOrdersUpToThree(t *testing.T) {
	came := map[api.Errno]int{}
	for _, in := range []api.Shape{pic(1, 1, 1), pic(1, 4, 4), pic(2, 3, 6), pic(2, 6, 4), pic(8, 4, 4), pic(1, 12, 10), pic(0, 4, 4), pic(1, -1, 4)} {
		came[hold(t, of(in)).e]++
		for _, a := range choices() {
			came[hold(t, of(in, a)).e]++
			for _, b := range choices() {
				came[hold(t, of(in, a, b)).e]++
				for _, c := range choices() {
					came[hold(t, of(in, a, b, c)).e]++
				}
			}
		}
	}
	for _, e := range []api.Errno{api.OK, api.ErrForm, api.ErrArg, api.ErrShape, api.ErrFull} {
		if came[e] < 100 {
			t.Errorf("%d came %d times", e, came[e])
		}
	}
}

// P5.1: each kind alone, over all its numbers from 0 to beyond what fits, and of pictures of all sides.
func TestEachKindAlone(t *testing.T) {
	for _, in := range []api.Shape{pic(1, 1, 1), pic(1, 12, 10), pic(2, 7, 9), pic(8, 4, 4), pic(3, 6, 7), pic(5, 1, 12), pic(4, 12, 2)} {
		hold(t, of(in, square()))
		for out := range 11 {
			hold(t, of(in, dense(out)))
			for size := range 15 {
				for step := range 15 {
					hold(t, of(in, conv(out, size, step)))
				}
			}
		}
		for size := range 30 {
			hold(t, of(in, pool(size)))
		}
	}
}

// draw is a number below n, and what the next one is drawn from.
func draw(from *uint64, n int) int {
	*from = *from*6364136223846793005 + 1442695040888963407
	return int(*from >> 33 % uint64(n))
}

// drawn is a network of so many layers that is right, or of the most that one more try brought about.
func drawn(from *uint64, many int) api.Net {
	for {
		in := pic(1+draw(from, 8), 1+draw(from, 12), 1+draw(from, 12))
		if !rightShape(in) {
			continue
		}
		n := of(in)
		for range 200 {
			l := []api.Layer{conv(1+draw(from, 8), 1+draw(from, 4), 1+draw(from, 3)), square(), pool(1 + draw(from, 3)), dense(1 + draw(from, 8))}[draw(from, 4)]
			if longer := of(in, append(slices.Clone(n.Layers), l)...); len(n.Layers) < many && model(longer).e == api.OK {
				n = longer
			}
		}
		return n
	}
}

// P5.1, P5.2, P5.3: networks of MaxLayers layers, drawn so that they are right; and with one more.
func TestMaxLayers(t *testing.T) {
	from, long := uint64(1), 0
	for range 300 {
		n := drawn(&from, api.MaxLayers)
		hold(t, n)
		if len(n.Layers) < api.MaxLayers {
			continue
		}
		long++
		if !Right(n) {
			t.Errorf("%v is not right", n)
		}
		wantError(t, of(n.In, append(slices.Clone(n.Layers), pool(1))...), api.ErrForm)
	}
	if long < 100 {
		t.Errorf("only %d networks have all layers", long)
	}
}

// P5.2: what comes out of a layer is what shape says of what goes into it, which came out of the one ahead; cut behind a layer, a network is right still, and answers the same of what is left.
func TestInTurn(t *testing.T) {
	from := uint64(2)
	for range 300 {
		n := drawn(&from, 1+draw(&from, api.MaxLayers))
		shapes, e := Shapes(n)
		if e != api.OK || len(shapes) != len(n.Layers)+1 || shapes[0] != n.In {
			t.Fatalf("Shapes(%v): %v, %d", n, shapes, e)
		}
		for i, l := range n.Layers {
			to, fits := shapes[i], true
			switch l.Kind {
			case api.Conv:
				to, fits = shape.Conv(shapes[i], l.Out, l.Size, l.Step)
			case api.Pool:
				to, fits = shape.Pool(shapes[i], l.Size)
			case api.Dense:
				to = pic(l.Out, 1, 1)
			}
			if !fits || shapes[i+1] != to || !shape.Right(to) {
				t.Errorf("%v, layer %d: %v comes out of %v, not %v", n, i, shapes[i+1], shapes[i], to)
			}
		}
		cutEverywhere(t, n, shapes)
	}
}

// cutEverywhere holds what is told of n against what is told of it when it is cut behind a layer, or ahead of all.
func cutEverywhere(t *testing.T, n api.Net, shapes []api.Shape) {
	t.Helper()
	for many := range len(n.Layers) + 1 {
		cut := of(n.In, n.Layers[:many]...)
		got, e := Shapes(cut)
		if e != api.OK || !Right(cut) || !slices.Equal(got, shapes[:many+1]) {
			t.Errorf("Shapes(%v): %v, %d, where more layers say %v", cut, got, e, shapes)
		}
		for i := range many {
			from, weights := Weights(n, i)
			if a, b := Weights(cut, i); a != from || b != weights || Products(cut, i) != Products(n, i) {
				t.Errorf("layer %d of %v: %d, %d, %d, where more layers say %d, %d, %d", i, cut, a, b, Products(cut, i), from, weights, Products(n, i))
			}
		}
		behind, _ := All(cut)
		if from, _ := Weights(n, many); many < len(n.Layers) && from != behind {
			t.Errorf("layer %d of %v begins at %d, where those ahead have %d", many, n, from, behind)
		}
	}
}

// P5.3: each layer's weights begin where those ahead end, the first at 0; all layers' together are what All says.
func TestWeightsInTurn(t *testing.T) {
	from := uint64(3)
	for range 300 {
		n := drawn(&from, 1+draw(&from, api.MaxLayers))
		end, products := 0, 0
		for i := range n.Layers {
			begin, many := Weights(n, i)
			if begin != end || many < 0 {
				t.Errorf("layer %d of %v: %d weights from %d on, where those ahead end at %d", i, n, many, begin, end)
			}
			end = begin + many
			products += Products(n, i)
		}
		if w, p := All(n); w != end || p != products {
			t.Errorf("All(%v): %d, %d, not %d, %d", n, w, p, end, products)
		}
	}
}

// P5.1 (E2): layers that there are not, at both ends and beyond, have no weights nor products, though those ahead of them have some.
func TestNoSuchLayer(t *testing.T) {
	for many := range api.MaxLayers + 1 {
		n := of(pic(1, 2, 2), slices.Repeat([]api.Layer{dense(1)}, many)...)
		for _, i := range absent(many) {
			if i >= 0 && i < many {
				continue
			}
			if from, weights := Weights(n, i); from != 0 || weights != 0 {
				t.Errorf("Weights(%v, %d): %d, %d", n, i, from, weights)
			}
			if got := Products(n, i); got != 0 {
				t.Errorf("Products(%v, %d): %d", n, i, got)
			}
		}
	}
}

// P5.1 (E2): of a network that is not right nothing is told of any layer, not even of those that would fit.
func TestNothingOfWrongNetworks(t *testing.T) {
	for _, n := range []api.Net{
		of(pic(1, 4, 4), dense(3), pool(2)), of(pic(8, 4, 4), dense(4), square()), of(pic(1, 4, 4), dense(3), api.Layer{}),
		of(pic(1, 4, 4), dense(3), dense(-1)), of(pic(0, 4, 4), dense(3)), of(pic(1, -1, 4), dense(3), square()),
	} {
		for i := -1; i <= len(n.Layers); i++ {
			if from, many := Weights(n, i); from != 0 || many != 0 || Products(n, i) != 0 {
				t.Errorf("%v, layer %d: %d, %d, %d", n, i, from, many, Products(n, i))
			}
		}
		if w, p := All(n); w != 0 || p != 0 {
			t.Errorf("All(%v): %d, %d", n, w, p)
		}
	}
}

// P1, P3: a network stays as it was, and its spare room too, whether it is right or not; what is answered is new memory, of which nothing is kept, and no call hangs on one ahead of it.
func TestNothingChangedNorKept(t *testing.T) {
	for _, last := range []api.Layer{dense(3), dense(9), {Kind: 7}, pool(2)} {
		room := []api.Layer{conv(2, 3, 1), square(), last, dense(8), pool(5), {Kind: -3, Out: -4}}
		was := slices.Clone(room)
		n := api.Net{In: pic(1, 4, 4), Layers: room[:3]}
		first, e := Shapes(n)
		want := slices.Clone(first)
		for i := range first[:cap(first)] {
			first[:cap(first)][i] = pic(-1, -2, -3)
		}
		Right(n)
		All(n)
		for i := -1; i < 5; i++ {
			Weights(n, i)
			Products(n, i)
		}
		if again, e2 := Shapes(n); e2 != e || !slices.Equal(again, want) {
			t.Errorf("Shapes(%v): %v, %d, then %v, %d", n, want, e, again, e2)
		}
		if !slices.Equal(room, was) || n.In != pic(1, 4, 4) || len(n.Layers) != 3 {
			t.Errorf("%v was changed to %v", was, room)
		}
	}
}

// P3: a network that is changed by its owner is looked at anew.
func TestLooksAnew(t *testing.T) {
	n := of(pic(1, 4, 4), conv(2, 3, 1), dense(3))
	wantRight(t, n, 42, 96)
	n.Layers[1] = dense(4)
	wantRight(t, n, 50, 104)
	n.Layers[0] = pool(3)
	wantError(t, n, api.ErrShape)
	n.Layers[0] = pool(2)
	wantRight(t, n, 16, 16)
}
