package gates

import (
	"math"
	"slices"
	"testing"

	"symbolon/api"
	"symbolon/check"
	"symbolon/terms"
)

func of(in api.Shape, layers ...api.Layer) api.Net { return api.Net{In: in, Layers: layers} }

func pic(c, h, w int) api.Shape { return api.Shape{C: c, H: h, W: w} }

func conv(out, size, step int) api.Layer {
	return api.Layer{Kind: api.Conv, Out: out, Size: size, Step: step}
}

func square() api.Layer { return api.Layer{Kind: api.Square} }

func pool(size int) api.Layer { return api.Layer{Kind: api.Pool, Size: size} }

func dense(out int) api.Layer { return api.Layer{Kind: api.Dense, Out: out} }

// book is what is to be told of a network: its stages, their gates, what is said at its end, and of each layer how many places come out, and how many terms each of these has.
type book struct {
	stages []int
	gates  [][]api.Gate
	end    int
	places []int
	terms  []int
}

// all are the gates of all stages, one stage behind the other.
func (b book) all() []api.Gate { return slices.Concat(b.gates...) }

// many is how many products a layer has, by its kind, with how many each place has.
func many(l api.Layer, in, out api.Shape) (int, int) {
	switch l.Kind {
	case api.Conv:
		each := in.C * l.Size * l.Size
		return each * out.C * out.H * out.W, each
	case api.Square:
		return in.C * in.H * in.W, 1
	case api.Dense:
		each := in.C * in.H * in.W
		return each * l.Out, each
	}
	return 0, 0
}

// model is what is to be told of a network that must be right: terms are counted one by one, place by place, layer by layer.
func model(t *testing.T, n api.Net) book {
	t.Helper()
	shapes, wrong := check.Shapes(n)
	if wrong != api.OK {
		t.Fatalf("%v is not right", n)
	}
	last := shapes[len(n.Layers)]
	b := book{end: last.C * last.H * last.W}
	for i, l := range n.Layers {
		out := shapes[i+1]
		b.places = append(b.places, out.C*out.H*out.W)
		products, each := many(l, shapes[i], out)
		b.terms = append(b.terms, each)
		if l.Kind == api.Pool {
			continue
		}
		var own []api.Gate
		for at := range out.C * out.H * out.W {
			for term, of := range terms.Terms(n, i, at) {
				own = append(own, api.Gate{Layer: i, At: at, Term: term, X: of.X, W: of.W})
			}
		}
		if len(own) != products {
			t.Fatalf("%v, layer %d: %d terms, %d products", n, i, len(own), products)
		}
		b.stages, b.gates = append(b.stages, i), append(b.gates, own)
	}
	return b
}

// outside are numbers of which none is 0 to many less 1, both ends of int among them.
func outside(many int) []int {
	return []int{-1, -2, -many - 1, many, many + 1, many + 128, many + 512, 2000, 1 << 31, 1 << 32, 1<<32 + 1, 1 << 62, 1<<62 + 1, -1 << 32, -1 << 62, math.MaxInt - 1, math.MaxInt, math.MinInt, math.MinInt + 1}
}

// noRange holds a stage that there is not against having no gates.
func noRange(t *testing.T, n api.Net, stage int) {
	t.Helper()
	if first, has := Range(n, stage); first != 0 || has != 0 {
		t.Errorf("Range(%v, %d): %d, %d", n, stage, first, has)
	}
}

// noLine holds a stage that there is not, and is no last one's next, against having no positions.
func noLine(t *testing.T, n api.Net, stage int) {
	t.Helper()
	if first, has := Line(n, stage); first != 0 || has != 0 {
		t.Errorf("Line(%v, %d): %d, %d", n, stage, first, has)
	}
}

// noGate holds a number against being that of no gate.
func noGate(t *testing.T, n api.Net, g int) {
	t.Helper()
	if gate, is := Gate(n, g); is || gate != (api.Gate{}) {
		t.Errorf("Gate(%v, %d): %v, %v", n, g, gate, is)
	}
}

// noIndex holds a layer, a place and a term against being no product's.
func noIndex(t *testing.T, n api.Net, layer, at, term int) {
	t.Helper()
	if g := Index(n, layer, at, term); g != -1 {
		t.Errorf("Index(%v, %d, %d, %d): %d", n, layer, at, term, g)
	}
}

// holdStages holds the stages of a network, their ranges and lines, and those of stages that there are not, against the model.
func holdStages(t *testing.T, n api.Net, b book) {
	t.Helper()
	if l := Stages(n); !slices.Equal(l, b.stages) {
		t.Fatalf("Stages(%v): %v, not %v", n, l, b.stages)
	}
	begin := 0
	for stage, own := range b.gates {
		if first, has := Range(n, stage); first != begin || has != len(own) {
			t.Fatalf("Range(%v, %d): %d, %d, not %d, %d", n, stage, first, has, begin, len(own))
		}
		if first, has := Line(n, stage); first != 2*begin || has != 2*len(own) {
			t.Fatalf("Line(%v, %d): %d, %d, not %d, %d", n, stage, first, has, 2*begin, 2*len(own))
		}
		begin += len(own)
	}
	if g := Total(n); g != begin {
		t.Fatalf("Total(%v): %d, not %d", n, g, begin)
	}
	if first, has := Line(n, len(b.stages)); first != 2*begin || has != b.end {
		t.Fatalf("Line(%v, %d): %d, %d, not %d, %d", n, len(b.stages), first, has, 2*begin, b.end)
	}
	for _, stage := range outside(len(b.stages)) {
		noRange(t, n, stage)
	}
	for _, stage := range outside(len(b.stages) + 1) {
		noLine(t, n, stage)
	}
}

// holdGates holds every gate of a network, and numbers that are none's, against the model; Index tells each gate's number.
func holdGates(t *testing.T, n api.Net, b book) {
	t.Helper()
	all := b.all()
	for g, want := range all {
		if gate, is := Gate(n, g); !is || gate != want {
			t.Fatalf("Gate(%v, %d): %v, %v, not %v", n, g, gate, is, want)
		}
		if got := Index(n, want.Layer, want.At, want.Term); got != g {
			t.Fatalf("Index(%v, %d, %d, %d): %d, not %d", n, want.Layer, want.At, want.Term, got, g)
		}
	}
	for _, g := range outside(len(all)) {
		noGate(t, n, g)
	}
}

// holdNoIndex holds layers, places and terms that there are not, each alone, and all places of Pools, against being no product's.
func holdNoIndex(t *testing.T, n api.Net, b book) {
	t.Helper()
	for i, places := range b.places {
		each := b.terms[i]
		if each == 0 {
			for at := range places {
				noIndex(t, n, i, at, 0)
				noIndex(t, n, i, at, at)
			}
		}
		for _, at := range outside(places) {
			noIndex(t, n, i, at, 0)
			noIndex(t, n, i, at, max(each-1, 0))
		}
		for _, term := range outside(each) {
			noIndex(t, n, i, 0, term)
			noIndex(t, n, i, places-1, term)
		}
	}
	for _, i := range outside(len(b.places)) {
		noIndex(t, n, i, 0, 0)
		noIndex(t, n, i, i, i)
	}
}

// hold holds all that is told of a network that must be right against the model.
func hold(t *testing.T, n api.Net) {
	t.Helper()
	b := model(t, n)
	holdStages(t, n, b)
	holdGates(t, n, b)
	holdNoIndex(t, n, b)
}

// P8.1 (H1, H2): the chapter's example: four gates, the line of stage 1 the positions 4 to 7, that of its next 8.
func TestExample(t *testing.T) {
	n := of(pic(1, 1, 2), square(), dense(1))
	if l, g := Stages(n), Total(n); !slices.Equal(l, []int{0, 1}) || g != 4 {
		t.Errorf("stages %v, %d gates", l, g)
	}
	for stage, want := range [][4]int{{0, 2, 0, 4}, {2, 2, 4, 4}, {0, 0, 8, 1}, {0, 0, 0, 0}} {
		gate, gates := Range(n, stage)
		position, positions := Line(n, stage)
		if got := [4]int{gate, gates, position, positions}; got != want {
			t.Errorf("stage %d: %v, not %v", stage, got, want)
		}
	}
	for g, want := range []api.Gate{{Layer: 0, At: 0, Term: 0, X: 0, W: -1}, {Layer: 0, At: 1, Term: 0, X: 1, W: -1}, {Layer: 1, At: 0, Term: 0, X: 0, W: 0}, {Layer: 1, At: 0, Term: 1, X: 1, W: 1}} {
		if gate, is := Gate(n, g); !is || gate != want {
			t.Errorf("gate %d: %v, %v, not %v", g, gate, is, want)
		}
		if got := Index(n, want.Layer, want.At, want.Term); got != g {
			t.Errorf("%v is gate %d, not %d", want, got, g)
		}
	}
	hold(t, n)
}

// P8.1: a network with all kinds of layers, Pools first, in between and last, whose stages, ranges, lines and gates are written out.
func TestAllKindsWrittenOut(t *testing.T) {
	n := of(pic(1, 4, 6), pool(2), conv(2, 2, 1), pool(1), square(), dense(2), pool(1))
	if l, g := Stages(n), Total(n); !slices.Equal(l, []int{1, 3, 4}) || g != 28 {
		t.Errorf("stages %v, %d gates", l, g)
	}
	for stage, want := range [][4]int{{0, 16, 0, 32}, {16, 4, 32, 8}, {20, 8, 40, 16}, {0, 0, 56, 2}, {0, 0, 0, 0}} {
		gate, gates := Range(n, stage)
		position, positions := Line(n, stage)
		if got := [4]int{gate, gates, position, positions}; got != want {
			t.Errorf("stage %d: %v, not %v", stage, got, want)
		}
	}
	for g, want := range [][5]int{
		{1, 0, 0, 0, 0}, {1, 0, 1, 1, 1}, {1, 0, 2, 3, 2}, {1, 0, 3, 4, 3}, {1, 1, 0, 1, 0}, {1, 1, 1, 2, 1}, {1, 1, 2, 4, 2}, {1, 1, 3, 5, 3},
		{1, 2, 0, 0, 4}, {1, 2, 1, 1, 5}, {1, 2, 2, 3, 6}, {1, 2, 3, 4, 7}, {1, 3, 0, 1, 4}, {1, 3, 1, 2, 5}, {1, 3, 2, 4, 6}, {1, 3, 3, 5, 7},
		{3, 0, 0, 0, -1}, {3, 1, 0, 1, -1}, {3, 2, 0, 2, -1}, {3, 3, 0, 3, -1},
		{4, 0, 0, 0, 8}, {4, 0, 1, 1, 9}, {4, 0, 2, 2, 10}, {4, 0, 3, 3, 11}, {4, 1, 0, 0, 12}, {4, 1, 1, 1, 13}, {4, 1, 2, 2, 14}, {4, 1, 3, 3, 15},
	} {
		gate, is := Gate(n, g)
		if got := [5]int{gate.Layer, gate.At, gate.Term, gate.X, gate.W}; !is || got != want {
			t.Errorf("gate %d: %v, %v, not %v", g, got, is, want)
		}
		if got := Index(n, want[0], want[1], want[2]); got != g {
			t.Errorf("%v is gate %d, not %d", want, got, g)
		}
	}
	noGate(t, n, 28)
	hold(t, n)
}

// alone are layers of each kind, many of each, of which some are right behind a picture.
func alone() []api.Layer {
	layers := []api.Layer{square()}
	for out := 1; out <= api.MaxC; out++ {
		layers = append(layers, dense(out))
		for size := 1; size <= 4; size++ {
			layers = append(layers, conv(out, size, 1), conv(out, size, 2), conv(out, size, 5))
		}
	}
	for size := 1; size <= api.MaxSide; size++ {
		layers = append(layers, pool(size))
	}
	return layers
}

// P8.1, P8.2: each kind of layer alone, of pictures of one and several channels, rows and columns, as great as may be among them.
func TestAlone(t *testing.T) {
	came := map[int]int{}
	for _, in := range []api.Shape{pic(1, 1, 1), pic(8, 1, 1), pic(1, 4, 4), pic(1, 3, 7), pic(2, 5, 6), pic(3, 6, 4), pic(2, 12, 1), pic(8, 4, 4), pic(1, 10, 12)} {
		for _, l := range alone() {
			if n := of(in, l); check.Right(n) {
				hold(t, n)
				came[l.Kind]++
			}
		}
	}
	for kind, least := range map[int]int{api.Conv: 100, api.Square: 9, api.Pool: 15, api.Dense: 40} {
		if came[kind] < least {
			t.Errorf("kind %d came only %d times", kind, came[kind])
		}
	}
}

// orders tells all networks of up to three layers that are right, of two pictures.
func orders(tell func(n api.Net)) {
	choices := []api.Layer{conv(2, 2, 1), conv(3, 1, 2), square(), pool(1), pool(2), dense(1), dense(3)}
	var longer func(n api.Net)
	longer = func(n api.Net) {
		if !check.Right(n) {
			return
		}
		tell(n)
		if len(n.Layers) == 3 {
			return
		}
		for _, l := range choices {
			longer(of(n.In, append(slices.Clone(n.Layers), l)...))
		}
	}
	longer(of(pic(1, 4, 6)))
	longer(of(pic(2, 5, 3)))
}

// P8.1, P8.2: each kind first, in between and last: all orders of up to three layers that are right.
func TestOrders(t *testing.T) {
	came := map[[2]int]int{}
	orders(func(n api.Net) {
		hold(t, n)
		for i, l := range n.Layers {
			if len(n.Layers) > 2 {
				came[[2]int{l.Kind, i}]++
			}
		}
	})
	for kind := api.Conv; kind <= api.Dense; kind++ {
		for place := range 3 {
			if came[[2]int{kind, place}] < 20 {
				t.Errorf("kind %d came %d times at place %d", kind, came[[2]int{kind, place}], place)
			}
		}
	}
}

// draw is a number below n, and what the next one is drawn from.
func draw(from *uint64, n int) int {
	*from = *from*6364136223846793005 + 1442695040888963407
	return int(*from >> 33 % uint64(n))
}

// drawn are so many networks that are right, most of them of MaxLayers layers.
func drawn(many int) []api.Net {
	from := uint64(8)
	var all []api.Net
	for len(all) < many {
		n := of(pic(1+draw(&from, 3), 2+draw(&from, 7), 2+draw(&from, 7)))
		if !check.Right(n) {
			continue
		}
		for range 200 {
			l := []api.Layer{conv(1+draw(&from, 4), 1+draw(&from, 3), 1+draw(&from, 3)), square(), pool(1 + draw(&from, 3)), dense(1 + draw(&from, 8))}[draw(&from, 4)]
			if next := of(n.In, append(slices.Clone(n.Layers), l)...); check.Right(next) {
				n = next
			}
		}
		all = append(all, n)
	}
	return all
}

// P8.1, P8.2: networks of many layers, drawn so that they are right.
func TestManyLayers(t *testing.T) {
	long := 0
	for _, n := range drawn(60) {
		hold(t, n)
		if len(n.Layers) == api.MaxLayers {
			long++
		}
	}
	if long < 25 {
		t.Errorf("only %d networks have all layers", long)
	}
}

// P8.1: networks with MaxGates gates, in one stage and in several, and with MaxLayers stages.
func TestAsManyAsMayBe(t *testing.T) {
	for _, n := range []api.Net{
		of(pic(8, 4, 4), dense(4)), of(pic(8, 4, 4), square(), square(), square(), square()), of(pic(8, 4, 4), conv(4, 1, 1)), of(pic(2, 8, 8), conv(2, 1, 1), square(), square()),
		of(pic(8, 1, 1), slices.Repeat([]api.Layer{dense(8)}, api.MaxLayers)...),
	} {
		if g := Total(n); g != api.MaxGates {
			t.Errorf("%v has %d gates", n, g)
		}
		hold(t, n)
	}
	n := of(pic(1, 2, 2), slices.Repeat([]api.Layer{square()}, api.MaxLayers)...)
	if l := Stages(n); !slices.Equal(l, []int{0, 1, 2, 3, 4, 5, 6, 7}) {
		t.Errorf("%v has the stages %v", n, l)
	}
	hold(t, n)
}

// P8.1, P8.2: gates go on stage by stage, place by place, term by term: behind a gate comes the next term, or the first of the next place, or that of the next stage, and nothing is left out.
func TestInOrder(t *testing.T) {
	for _, n := range drawn(20) {
		products := 0
		for i := range n.Layers {
			products += check.Products(n, i)
		}
		if g := Total(n); g != products {
			t.Errorf("%v: %d gates, %d products", n, g, products)
		}
		ahead := api.Gate{Layer: -1}
		for g := range products {
			gate, is := Gate(n, g)
			if !is {
				t.Fatalf("%v has no gate %d", n, g)
			}
			switch {
			case gate.Layer == ahead.Layer && gate.At == ahead.At:
				is = gate.Term == ahead.Term+1
			case gate.Layer == ahead.Layer:
				is = gate.At == ahead.At+1 && gate.Term == 0 && len(terms.Terms(n, ahead.Layer, ahead.At)) == ahead.Term+1
			default:
				is = gate.Layer > ahead.Layer && gate.At == 0 && gate.Term == 0 && Index(n, ahead.Layer, ahead.At, ahead.Term+1) == -1 && Index(n, ahead.Layer, ahead.At+1, 0) == -1
			}
			if !is {
				t.Fatalf("%v: behind %v comes %v", n, ahead, gate)
			}
			ahead = gate
		}
	}
}

// P8.2: no two gates are one product, and each product of each place of each layer is one gate, which tells it.
func TestOneByOne(t *testing.T) {
	orders(func(n api.Net) {
		shapes, _ := check.Shapes(n)
		gates := map[[3]int]int{}
		for g := range Total(n) {
			gate, is := Gate(n, g)
			product := [3]int{gate.Layer, gate.At, gate.Term}
			if other, two := gates[product]; !is || two {
				t.Fatalf("%v: gates %d and %d are %v", n, other, g, gate)
			}
			gates[product] = g
		}
		for i := range n.Layers {
			out := shapes[i+1]
			for at := range out.C * out.H * out.W {
				for term, want := range terms.Terms(n, i, at) {
					g := Index(n, i, at, term)
					if known, is := gates[[3]int{i, at, term}]; !is || g != known {
						t.Fatalf("Index(%v, %d, %d, %d): %d, not %d", n, i, at, term, g, known)
					}
					delete(gates, [3]int{i, at, term})
					if gate, is := Gate(n, g); !is || gate != (api.Gate{Layer: i, At: at, Term: term, X: want.X, W: want.W}) {
						t.Fatalf("%v: gate %d of layer %d, place %d, term %d: %v", n, g, i, at, term, gate)
					}
				}
			}
		}
		if len(gates) != 0 {
			t.Fatalf("%v: gates %v are no products", n, gates)
		}
	})
}

// P8.3: the ranges of all stages are all gates, each of the stage's own layer; their lines, and that of the last one's next, all positions: one behind the other, none left out. The positions of a gate are those of its stage.
func TestInARow(t *testing.T) {
	inARow := func(n api.Net) {
		stages, gates, positions := Stages(n), 0, 0
		for stage, layer := range stages {
			first, has := Range(n, stage)
			if first != gates || has == 0 {
				t.Fatalf("%v: stage %d has %d gates from %d on, behind %d", n, stage, has, first, gates)
			}
			for g := first; g < first+has; g++ {
				if gate, is := Gate(n, g); !is || gate.Layer != layer {
					t.Fatalf("%v: gate %d is %v, not of layer %d", n, g, gate, layer)
				}
			}
			line, said := Line(n, stage)
			if line != positions || line != 2*first || line+said != 2*(first+has) {
				t.Fatalf("%v: the line of stage %d has %d positions from %d on, behind %d", n, stage, said, line, positions)
			}
			gates, positions = gates+has, positions+said
		}
		if gates != Total(n) {
			t.Fatalf("%v: %d gates in ranges, %d in all", n, gates, Total(n))
		}
		shapes, _ := check.Shapes(n)
		out := shapes[len(n.Layers)]
		if line, said := Line(n, len(stages)); line != positions || said != out.C*out.H*out.W {
			t.Fatalf("%v: the last line has %d positions from %d on, behind %d", n, said, line, positions)
		}
		noRange(t, n, len(stages))
		noLine(t, n, len(stages)+1)
	}
	orders(inARow)
	for _, n := range drawn(50) {
		inARow(n)
	}
}

// told is what is told of a network's gates: the stages, and of each its range and line; all gates.
func told(n api.Net) ([][5]int, []api.Gate) {
	var stages [][5]int
	for stage, layer := range Stages(n) {
		first, has := Range(n, stage)
		line, said := Line(n, stage)
		stages = append(stages, [5]int{layer, first, has, line, said})
	}
	var gates []api.Gate
	for g := range Total(n) {
		gate, _ := Gate(n, g)
		gates = append(gates, gate)
	}
	return stages, gates
}

// P8.4: with layers taken off at the end, one by one, or others in their stead, the stages and gates that are left are what they were.
func TestByWhatIsAhead(t *testing.T) {
	for _, n := range append(drawn(12), of(pic(1, 4, 6), pool(2), conv(2, 2, 1), pool(1), square(), dense(2), pool(1))) {
		stages, gates := told(n)
		for left := len(n.Layers) - 1; left >= 0; left-- {
			own, has := 0, 0
			for _, s := range stages {
				if s[0] < left {
					own, has = own+1, s[1]+s[2]
				}
			}
			for _, last := range [][]api.Layer{nil, {square()}, {pool(1)}, {dense(1)}, {conv(2, 1, 1)}} {
				short := of(n.In, append(slices.Clone(n.Layers[:left]), last...)...)
				if !check.Right(short) {
					continue
				}
				fewer, less := told(short)
				if !slices.Equal(fewer[:own], stages[:own]) || !slices.Equal(less[:has], gates[:has]) {
					t.Fatalf("%v, and of it %v: %v, not %v; %v, not %v", n, short, fewer, stages, less, gates)
				}
				if len(last) == 0 && (len(fewer) != own || len(less) != has) {
					t.Fatalf("%v has %d stages, not %d; %d gates, not %d", short, len(fewer), own, len(less), has)
				}
				for g, gate := range less[:has] {
					if at := Index(short, gate.Layer, gate.At, gate.Term); at != g {
						t.Fatalf("%v: %v is gate %d, not %d", short, gate, at, g)
					}
				}
			}
		}
	}
}

// P8.1: a network without layers, or of Pools alone, has neither stages nor gates; what comes out is said all the same, as the line of stage 0.
func TestNoStages(t *testing.T) {
	for _, c := range []struct {
		n    api.Net
		said int
	}{
		{api.Net{In: pic(2, 3, 4)}, 24}, {api.Net{In: pic(1, 1, 1), Layers: []api.Layer{}}, 1}, {of(pic(8, 4, 4)), 128},
		{of(pic(1, 4, 4), pool(2)), 4}, {of(pic(2, 4, 4), pool(2), pool(2)), 2}, {of(pic(1, 12, 10), pool(1)), 120},
	} {
		hold(t, c.n)
		if l, g := Stages(c.n), Total(c.n); len(l) != 0 || g != 0 {
			t.Errorf("%v has the stages %v, %d gates", c.n, l, g)
		}
		if first, has := Line(c.n, 0); first != 0 || has != c.said {
			t.Errorf("Line(%v, 0): %d, %d, not 0, %d", c.n, first, has, c.said)
		}
		noRange(t, c.n, 0)
		noLine(t, c.n, 1)
		noGate(t, c.n, 0)
		for at := range 25 {
			noIndex(t, c.n, 0, at, 0)
			noIndex(t, c.n, -1, at, 0)
		}
	}
}

// P8.1: of a layer, a place or a term that there is not, each beside others that there are, the index is -1; so it is where one would be that of another place or layer, if only their sum counted.
func TestNoSuchProduct(t *testing.T) {
	n := of(pic(1, 3, 3), conv(2, 2, 1), pool(2), dense(3))
	for _, l := range [][3]int{
		{0, -1, 4}, {0, 1, -1}, {0, 0, 4}, {0, 7, 4}, {0, 8, 0}, {0, 9, -4}, {1, 0, 0}, {1, 1, 0}, {1, 0, 3}, {2, -1, 2}, {2, 0, 2}, {2, 1, -1}, {2, 3, 0}, {2, 2, 2}, {2, -16, 0}, {-1, 0, 0}, {3, 0, 0},
		{0, math.MinInt, 0}, {0, math.MaxInt, 0}, {0, 0, math.MinInt}, {0, 0, math.MaxInt}, {math.MinInt, 0, 0}, {math.MaxInt, 0, 0},
		{0, 1 << 62, 0}, {0, -1 << 62, 1}, {2, math.MinInt, 1}, {2, -1 << 63, 0}, {math.MaxInt, math.MaxInt, math.MaxInt}, {math.MinInt, math.MinInt, math.MinInt},
	} {
		noIndex(t, n, l[0], l[1], l[2])
	}
	for _, c := range []struct{ layer, at, term, g int }{{0, 0, 0, 0}, {0, 0, 3, 3}, {0, 7, 3, 31}, {2, 0, 0, 32}, {2, 2, 1, 37}} {
		if g := Index(n, c.layer, c.at, c.term); g != c.g {
			t.Errorf("Index(%v, %d, %d, %d): %d, not %d", n, c.layer, c.at, c.term, g, c.g)
		}
	}
}

// nothing holds a network that is not right against having none of all that.
func nothing(t *testing.T, n api.Net) {
	t.Helper()
	if check.Right(n) {
		t.Errorf("%v is right", n)
	}
	if l, g := Stages(n), Total(n); len(l) != 0 || g != 0 {
		t.Errorf("%v has the stages %v, %d gates", n, l, g)
	}
	for i := -1; i <= api.MaxLayers+2; i++ {
		noRange(t, n, i)
		noLine(t, n, i)
		noGate(t, n, i)
		noIndex(t, n, i, 0, 0)
	}
	for _, far := range outside(0) {
		noRange(t, n, far)
		noLine(t, n, far)
		noGate(t, n, far)
		noIndex(t, n, far, 0, 0)
		noIndex(t, n, 0, far, 0)
		noIndex(t, n, 0, 0, far)
		noIndex(t, n, far, far, far)
	}
}

// P8.1, P1: a network that is not right has none of all that, not even of layers that would fit.
func TestNothingOfWrongNetworks(t *testing.T) {
	in := pic(1, 4, 4)
	for _, n := range []api.Net{
		{},
		{Layers: []api.Layer{square()}},
		of(pic(0, 4, 4)), of(pic(1, 4, 0)), of(pic(9, 1, 1)), of(pic(1, 12, 12)), of(pic(-1, -1, 1)), of(pic(1, -4, -4)),
		of(pic(0, 4, 4), dense(1)), of(pic(9, 1, 1), dense(1)), of(pic(1, 13, 1), pool(1)), of(pic(1, 12, 12), pool(2)), of(pic(-1, 4, 4), square()),
		of(pic(1<<32, 1<<32, 1), square()), of(pic(math.MaxInt, math.MaxInt, math.MaxInt), dense(1)), of(pic(math.MinInt, 1, 1), pool(1)),
		of(in, conv(0, 1, 1)), of(in, conv(9, 4, 1)), of(in, conv(1, 0, 1)), of(in, conv(1, 5, 1)), of(in, conv(1, 1, 0)), of(in, conv(1, 1, 13)),
		of(in, conv(-1, 1, 1)), of(in, conv(1, -1, 1)), of(in, conv(1, 1, -1)), of(in, conv(math.MaxInt, math.MaxInt, math.MaxInt)), of(in, conv(1, math.MinInt, 1)),
		of(in, pool(0)), of(in, pool(3)), of(in, pool(5)), of(in, pool(-1)), of(in, pool(math.MaxInt)), of(in, pool(math.MinInt)),
		of(in, dense(0)), of(in, dense(9)), of(in, dense(-1)), of(in, dense(math.MaxInt)), of(in, dense(math.MinInt)),
		of(in, api.Layer{}), of(in, api.Layer{Kind: 5}), of(in, api.Layer{Kind: -1}), of(in, api.Layer{Kind: api.Square, Size: 1}), of(in, api.Layer{Kind: api.Pool, Size: 2, Step: 2}),
		of(in, api.Layer{Kind: api.Dense, Out: 1, Step: 1}), of(in, api.Layer{Kind: math.MaxInt}), of(in, api.Layer{Kind: math.MinInt}),
		of(in, conv(2, 3, 1), square(), pool(2), dense(9)), of(in, pool(2), dense(3), pool(2)), of(in, pool(2), dense(3), api.Layer{}), of(in, square(), dense(0)),
		of(pic(8, 4, 4), dense(5)), of(pic(8, 4, 4), pool(2), square(), dense(8), dense(8), dense(8), dense(8), dense(8)), of(pic(8, 4, 4), dense(4), square()),
		of(in, slices.Repeat([]api.Layer{pool(1)}, api.MaxLayers+1)...), of(in, slices.Repeat([]api.Layer{square()}, api.MaxLayers+1)...),
	} {
		nothing(t, n)
	}
}

// P3: the network, with its spare room, reads afterwards as it read before, whether it is right or not; what comes out is new memory, its spare room too, and no call hangs on one ahead of it.
func TestNothingChangedNorKept(t *testing.T) {
	for _, last := range []api.Layer{dense(3), pool(2), conv(2, 2, 1), square(), dense(9), {Kind: 7}} {
		room := []api.Layer{conv(2, 3, 1), square(), last, dense(8), pool(5), {Kind: -3, Out: -4}}
		was := slices.Clone(room)
		n := api.Net{In: pic(1, 4, 4), Layers: room[:3]}
		layers := Stages(n)
		want := slices.Clone(layers)
		other := Stages(n)
		spoil(layers, -7)
		if !slices.Equal(other, want) || !slices.Equal(Stages(n), want) {
			t.Errorf("Stages(%v): %v, then %v", n, want, other)
		}
		stages, gates := told(n)
		for i := -1; i <= 4; i++ {
			Range(n, i)
			Line(n, i)
			Gate(n, i)
			Index(n, i, 0, 0)
		}
		again, same := told(n)
		if !slices.Equal(again, stages) || !slices.Equal(same, gates) {
			t.Errorf("%v: %v, then %v; %v, then %v", n, stages, again, gates, same)
		}
		if !slices.Equal(room, was) || n.In != pic(1, 4, 4) || len(n.Layers) != 3 {
			t.Errorf("%v was changed to %v", was, room)
		}
	}
}

// spoil writes over a list, and over its spare room.
func spoil[T any](list []T, with T) {
	for i := range list[:cap(list)] {
		list[:cap(list)][i] = with
	}
}

// P3: a network that is changed by its owner is looked at anew.
func TestLooksAnew(t *testing.T) {
	n := of(pic(1, 4, 4), conv(2, 3, 1), dense(3))
	hold(t, n)
	n.Layers[0] = pool(2)
	hold(t, n)
	n.Layers[0] = pool(3)
	nothing(t, n)
	n.Layers[0] = square()
	hold(t, n)
	n.In = pic(2, 2, 3)
	hold(t, n)
}
