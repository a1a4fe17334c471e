package ring

import (
	"math/bits"
	"slices"
	"testing"
)

const top = 1<<64 - 1

// rowCalls are the calls that make a row of two rows.
func rowCalls() map[string]func(a, b []uint64) []uint64 {
	return map[string]func(a, b []uint64) []uint64{
		"Add":   Add,
		"Sub":   Sub,
		"Mul":   Mul,
		"Scale": func(a, b []uint64) []uint64 { return Scale(3, a) },
	}
}

// edges are numbers at which sums and products go round, and some between.
func edges() []uint64 {
	return []uint64{0, 1, 2, 3, 5, 7, 8, 1<<31 + 1, 1 << 32, 1<<32 + 1, 0x9e3779b97f4a7c15, 1<<63 - 1, 1 << 63, 1<<63 + 1, top - 1, top}
}

// spread is a row of many numbers, which differs by k.
func spread(k uint64, many int) []uint64 {
	row := make([]uint64, many)
	for i := range many {
		row[i] = (uint64(i)*k + k) * 0xbf58476d1ce4e5b9
	}
	return row
}

// P1.1 (A1): ordinary rows, rows of unlike lengths, empty ones, numbers that go round.
func TestRows(t *testing.T) {
	for _, c := range []struct {
		name          string
		a, b          []uint64
		add, sub, mul []uint64
	}{
		{"ordinary", []uint64{9, 5, 7}, []uint64{1, 2, 3}, []uint64{10, 7, 10}, []uint64{8, 3, 4}, []uint64{9, 10, 21}},
		{"one", []uint64{4}, []uint64{4}, []uint64{8}, []uint64{0}, []uint64{16}},
		{"longer first", []uint64{1, 2, 3}, []uint64{top, 5}, []uint64{0, 7}, []uint64{2, top - 2}, []uint64{top, 10}},
		{"longer second", []uint64{1, 2}, []uint64{2, 1, 9}, []uint64{3, 3}, []uint64{top, 1}, []uint64{2, 2}},
		{"both nil", nil, nil, nil, nil, nil},
		{"first nil", nil, []uint64{1}, nil, nil, nil},
		{"second nil", []uint64{1}, nil, nil, nil, nil},
		{"empty", []uint64{}, []uint64{1, 2}, nil, nil, nil},
		{"noughts", []uint64{0, 6, 0}, []uint64{0, 0, 6}, []uint64{0, 6, 6}, []uint64{0, 6, top - 5}, []uint64{0, 0, 0}},
		{"halves", []uint64{1 << 63, 1 << 32}, []uint64{1 << 63, 1 << 32}, []uint64{0, 1 << 33}, []uint64{0, 0}, []uint64{0, 0}},
		{"greatest", []uint64{top, top}, []uint64{top, 2}, []uint64{top - 1, 1}, []uint64{0, top - 2}, []uint64{1, top - 1}},
	} {
		for name, got := range map[string][2][]uint64{"Add": {Add(c.a, c.b), c.add}, "Sub": {Sub(c.a, c.b), c.sub}, "Mul": {Mul(c.a, c.b), c.mul}} {
			if !slices.Equal(got[0], got[1]) {
				t.Errorf("%s, %s: %v, not %v", c.name, name, got[0], got[1])
			}
		}
	}
}

// P1.1 (A2): Scale, Sum and Dot.
func TestScaleSumDot(t *testing.T) {
	for _, c := range []struct {
		k         uint64
		row, want []uint64
	}{
		{3, []uint64{1, 2, 3}, []uint64{3, 6, 9}},
		{0, []uint64{1, top}, []uint64{0, 0}},
		{1, []uint64{7, top}, []uint64{7, top}},
		{top, []uint64{1, 0, 5}, []uint64{top, 0, top - 4}},
		{1 << 63, []uint64{1, 2, 3}, []uint64{1 << 63, 0, 1 << 63}},
		{3, nil, nil},
		{3, []uint64{}, nil},
	} {
		if got := Scale(c.k, c.row); !slices.Equal(got, c.want) {
			t.Errorf("Scale %d of %v: %v, not %v", c.k, c.row, got, c.want)
		}
	}
	for _, c := range []struct {
		row  []uint64
		want uint64
	}{
		{nil, 0}, {[]uint64{}, 0}, {[]uint64{5}, 5}, {[]uint64{1, 2, 3}, 6},
		{[]uint64{top, 1}, 0}, {[]uint64{1 << 63, 1 << 63, 7}, 7}, {[]uint64{top, top, top}, top - 2},
	} {
		if got := Sum(c.row); got != c.want {
			t.Errorf("Sum of %v: %d, not %d", c.row, got, c.want)
		}
	}
	for _, c := range []struct {
		a, b []uint64
		want uint64
	}{
		{nil, nil, 0}, {nil, []uint64{1}, 0}, {[]uint64{1}, []uint64{}, 0},
		{[]uint64{1, 2, 3}, []uint64{4, 5, 6}, 32}, {[]uint64{1, 2, 3}, []uint64{4, 5}, 14}, {[]uint64{4, 5}, []uint64{1, 2, 3}, 14},
		{[]uint64{1 << 63, 1}, []uint64{2, 9}, 9}, {[]uint64{top, top}, []uint64{top, 1}, 0},
	} {
		if got := Dot(c.a, c.b); got != c.want {
			t.Errorf("Dot of %v and %v: %d, not %d", c.a, c.b, got, c.want)
		}
	}
}

// P1.1 against numbers of 128 bits, whose lower half is what stays.
func TestWideNumbers(t *testing.T) {
	for _, x := range edges() {
		for _, y := range edges() {
			sum, _ := bits.Add64(x, y, 0)
			less, _ := bits.Sub64(x, y, 0)
			_, product := bits.Mul64(x, y)
			a, b := []uint64{x}, []uint64{y}
			if got := []uint64{Add(a, b)[0], Sub(a, b)[0], Mul(a, b)[0], Scale(x, b)[0], Dot(a, b)}; !slices.Equal(got, []uint64{sum, less, product, product, product}) {
				t.Errorf("%d and %d: %v", x, y, got)
			}
		}
	}
}

// A row may be far longer than any of the layers above make one.
func TestLongRows(t *testing.T) {
	const many = 1 << 20
	a, b := spread(3, many), spread(5, many+1)
	if len(Add(a, b)) != many || len(Sub(b, a)) != many || len(Mul(a, b)) != many || len(Scale(2, b)) != many+1 {
		t.Error("lengths")
	}
	ones := Scale(0, a)
	for i := range ones {
		ones[i] = 1
	}
	if Sum(ones) != many || Dot(a, ones) != Sum(a) {
		t.Error("sums")
	}
}

// P1.2: sums and products go in any order, and products over sums; what is added may be taken away again.
func TestRing(t *testing.T) {
	for _, x := range edges() {
		for _, y := range edges() {
			for _, z := range edges() {
				a, b, c := []uint64{x, y, z}, []uint64{y, z, x}, []uint64{z, x, y}
				for law, sides := range map[string][2][]uint64{
					"sums in any order":      {Add(a, b), Add(b, a)},
					"sums of sums":           {Add(Add(a, b), c), Add(a, Add(b, c))},
					"products in any order":  {Mul(a, b), Mul(b, a)},
					"products of products":   {Mul(Mul(a, b), c), Mul(a, Mul(b, c))},
					"products over sums":     {Mul(a, Add(b, c)), Add(Mul(a, b), Mul(a, c))},
					"products over less":     {Mul(a, Sub(b, c)), Sub(Mul(a, b), Mul(a, c))},
					"added, then taken away": {Sub(Add(a, b), b), a},
					"taken away, then added": {Add(Sub(a, b), b), a},
					"itself taken away":      {Sub(a, a), {0, 0, 0}},
					"scale over sums":        {Scale(x, Add(b, c)), Add(Scale(x, b), Scale(x, c))},
					"sum of scales":          {Scale(x+y, c), Add(Scale(x, c), Scale(y, c))},
					"scale of a scale":       {Scale(x, Scale(y, c)), Scale(x*y, c)},
				} {
					if !slices.Equal(sides[0], sides[1]) {
						t.Fatalf("%s: %v, %v, %v: %v, not %v", law, a, b, c, sides[0], sides[1])
					}
				}
			}
		}
	}
}

// P1.3: Dot goes over sums, and over parts.
func TestDotOverSumsAndParts(t *testing.T) {
	for _, many := range []int{0, 1, 2, 3, 16, 65} {
		a, b, c := spread(3, many), spread(7, many), spread(0x94d049bb133111eb, many)
		if Dot(Add(a, b), c) != Dot(a, c)+Dot(b, c) || Dot(c, Add(a, b)) != Dot(c, a)+Dot(c, b) {
			t.Errorf("%d: sums", many)
		}
		if Dot(Sub(a, b), c) != Dot(a, c)-Dot(b, c) {
			t.Errorf("%d: less", many)
		}
		if Dot(Scale(top-2, a), b) != (top-2)*Dot(a, b) || Dot(a, b) != Dot(b, a) {
			t.Errorf("%d: scales", many)
		}
		if Sum(Add(a, b)) != Sum(a)+Sum(b) || Sum(Sub(a, b)) != Sum(a)-Sum(b) {
			t.Errorf("%d: Sum", many)
		}
		for cut := range many + 1 {
			if Dot(a, b) != Dot(a[:cut], b[:cut])+Dot(a[cut:], b[cut:]) || Sum(a) != Sum(a[:cut])+Sum(a[cut:]) {
				t.Errorf("%d: cut at %d", many, cut)
			}
		}
	}
}

// P1.1 (A3), P1.4: each odd number has just one inverse.
func TestInverseOfOdd(t *testing.T) {
	for x, want := range map[uint64]uint64{1: 1, 3: 0xaaaaaaaaaaaaaaab, 5: 0xcccccccccccccccd, 1<<63 + 1: 1<<63 + 1, 1<<63 - 1: 1<<63 - 1, top: top} {
		if got, is := Inverse(x); got != want || !is {
			t.Errorf("%x: %x, %v, not %x", x, got, is, want)
		}
	}
	odd := []uint64{}
	for x := uint64(1); x < 1<<12; x += 2 {
		odd = append(odd, x, x<<52|1, x*0x9e3779b97f4a7c15, -x)
	}
	for _, x := range odd {
		y, is := Inverse(x)
		if !is || x*y != 1 {
			t.Fatalf("%x: %x, %v", x, y, is)
		}
		if back, is := Inverse(y); !is || back != x {
			t.Fatalf("%x: the inverse of its inverse is %x, %v", x, back, is)
		}
	}
}

// P1.4: another number than the inverse has another product, also one that differs in a single bit.
func TestInverseIsTheOnlyOne(t *testing.T) {
	for _, x := range edges() {
		y, is := Inverse(x)
		if !is {
			continue
		}
		for i := range 64 {
			if x*(y^1<<i) == 1 {
				t.Errorf("%x has the inverses %x and %x", x, y, y^1<<i)
			}
		}
	}
}

// P1.1 (A3), P2: of an even number 0 and false.
func TestInverseOfEven(t *testing.T) {
	even := []uint64{0, 2, 4, 6, 1 << 32, 1 << 63, top - 1, 0xaaaaaaaaaaaaaaaa}
	for x := uint64(8); x < 1<<10; x += 2 {
		even = append(even, x, x<<53, -x)
	}
	for _, x := range even {
		if y, is := Inverse(x); y != 0 || is {
			t.Errorf("%x: %x, %v", x, y, is)
		}
	}
}

// P3: what is handed in is not changed, nor its spare room.
func TestArgumentsStay(t *testing.T) {
	for name, call := range rowCalls() {
		for _, many := range [][2]int{{0, 0}, {0, 3}, {3, 0}, {3, 3}, {2, 4}, {4, 2}} {
			a, b := spread(3, 8), spread(5, 8)
			wantA, wantB := slices.Clone(a), slices.Clone(b)
			call(a[:many[0]], b[:many[1]])
			Sum(a[:many[0]])
			Dot(a[:many[0]], b[:many[1]])
			if !slices.Equal(a, wantA) || !slices.Equal(b, wantB) {
				t.Errorf("%s of %v changed its rows", name, many)
			}
		}
	}
}

// P3: what comes out is new memory, its spare room too, and nothing is kept from call to call.
func TestAnswersAreNew(t *testing.T) {
	for name, call := range rowCalls() {
		for _, many := range [][2]int{{0, 0}, {0, 3}, {3, 3}, {2, 4}, {4, 2}} {
			a, b := spread(3, 8), spread(5, 8)
			wantA, wantB := slices.Clone(a), slices.Clone(b)
			first := call(a[:many[0]], b[:many[1]])
			want := slices.Clone(first)
			second := call(a[:many[0]], b[:many[1]])
			if !slices.Equal(first, second) {
				t.Errorf("%s of %v: %v, then %v", name, many, first, second)
			}
			fill(second)
			if !slices.Equal(a, wantA) || !slices.Equal(b, wantB) || !slices.Equal(first, want) {
				t.Errorf("%s of %v shares memory", name, many)
			}
			fill(a)
			fill(b)
			if !slices.Equal(first, want) {
				t.Errorf("%s of %v keeps its rows", name, many)
			}
		}
	}
}

// P3: the same row may be handed in twice.
func TestOneRowTwice(t *testing.T) {
	a := []uint64{3, 1 << 32, top}
	if !slices.Equal(Add(a, a), Scale(2, a)) || !slices.Equal(Sub(a, a), []uint64{0, 0, 0}) || !slices.Equal(Mul(a, a), []uint64{9, 0, 1}) || Dot(a, a) != 10 {
		t.Error("a row with itself")
	}
}

// fill lays a number everywhere in a row, in its spare room too.
func fill(row []uint64) {
	row = row[:cap(row)]
	for i := range row {
		row[i] = 0xdeadbeef
	}
}
