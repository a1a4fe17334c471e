package shape

import (
	"math"
	"testing"

	"symbolon/api"
)

// far are numbers whose sums and products go round, or that are below 0.
func far() []int {
	return []int{math.MinInt, math.MinInt + 1, -1 << 32, -13, -1, 13, 129, 1 << 16, 1 << 21, 1 << 31, 1 << 32, 1<<32 + 1, 1 << 62, 1<<62 + 1, math.MaxInt - 1, math.MaxInt}
}

// rightOnes are all shapes that are right, with their sizes, counted one by one.
func rightOnes() map[api.Shape]int {
	all := map[api.Shape]int{}
	for c := 1; c <= 8; c++ {
		for h := 1; h <= 12; h++ {
			for w := 1; w <= 12; w++ {
				many := 0
				for range c {
					for range h {
						many += w
					}
				}
				if many <= 128 {
					all[api.Shape{C: c, H: h, W: w}] = many
				}
			}
		}
	}
	return all
}

// wrongOnes are shapes that are not right, each by one thing alone or by several.
func wrongOnes() []api.Shape {
	all := []api.Shape{
		{}, {C: 1}, {H: 1}, {W: 1}, {C: 1, H: 1}, {C: 1, W: 1}, {H: 1, W: 1},
		{C: 9, H: 1, W: 1}, {C: 1, H: 13, W: 1}, {C: 1, H: 1, W: 13},
		{C: 0, H: 2, W: 2}, {C: 2, H: 0, W: 2}, {C: 2, H: 2, W: 0},
		{C: -1, H: 1, W: 1}, {C: 1, H: -1, W: 1}, {C: 1, H: 1, W: -1},
		{C: -1, H: -1, W: 1}, {C: -1, H: 1, W: -1}, {C: 1, H: -1, W: -1}, {C: -1, H: -1, W: -1},
		{C: 1, H: 12, W: 11}, {C: 1, H: 11, W: 12}, {C: 1, H: 12, W: 12}, {C: 3, H: 6, W: 8}, {C: 3, H: 43, W: 1},
		{C: 8, H: 5, W: 4}, {C: 8, H: 4, W: 5}, {C: 8, H: 12, W: 2}, {C: 8, H: 12, W: 12}, {C: 7, H: 3, W: 7},
		{C: 1 << 32, H: 1 << 32, W: 1}, {C: 1 << 21, H: 1 << 21, W: 1 << 22}, {C: 1 << 62, H: 2, W: 2}, {C: 1 << 32, H: 1<<32 + 1, W: 4},
		{C: 2, H: 1 << 62, W: 2}, {C: 2, H: 2, W: 1 << 62}, {C: 1, H: 1 << 63 / 4, W: 4},
	}
	for _, n := range far() {
		all = append(all, api.Shape{C: n, H: 2, W: 2}, api.Shape{C: 2, H: n, W: 2}, api.Shape{C: 2, H: 2, W: n}, api.Shape{C: n, H: n, W: n}, api.Shape{C: n, H: n, W: 1})
	}
	return all
}

// P2.1 (B1): each limit, and just beyond it.
func TestRightAndSizeAtLimits(t *testing.T) {
	for s, want := range map[api.Shape]int{
		{C: 1, H: 1, W: 1}:   1,
		{C: 2, H: 3, W: 4}:   24,
		{C: 8, H: 1, W: 1}:   8,
		{C: 9, H: 1, W: 1}:   0,
		{C: 1, H: 12, W: 1}:  12,
		{C: 1, H: 13, W: 1}:  0,
		{C: 1, H: 1, W: 12}:  12,
		{C: 1, H: 1, W: 13}:  0,
		{C: 8, H: 4, W: 4}:   128,
		{C: 8, H: 2, W: 8}:   128,
		{C: 8, H: 16, W: 1}:  0,
		{C: 2, H: 8, W: 8}:   128,
		{C: 1, H: 12, W: 10}: 120,
		{C: 1, H: 10, W: 12}: 120,
		{C: 1, H: 11, W: 11}: 121,
		{C: 7, H: 2, W: 9}:   126,
		{C: 1, H: 12, W: 11}: 0,
		{C: 1, H: 13, W: 10}: 0,
		{C: 5, H: 2, W: 12}:  120,
		{C: 5, H: 12, W: 2}:  120,
		{C: 5, H: 3, W: 9}:   0,
		{C: 0, H: 1, W: 1}:   0,
		{C: 1, H: 0, W: 1}:   0,
		{C: 1, H: 1, W: 0}:   0,
	} {
		if Right(s) != (want > 0) || Size(s) != want {
			t.Errorf("%v: %v, %d, not %d", s, Right(s), Size(s), want)
		}
	}
}

// P2.1 (B1): all small shapes, held against those that are right.
func TestRightAndSizeOfAllSmall(t *testing.T) {
	right := rightOnes()
	for c := -2; c <= 10; c++ {
		for h := -2; h <= 14; h++ {
			for w := -2; w <= 14; w++ {
				s := api.Shape{C: c, H: h, W: w}
				want, is := right[s]
				if Right(s) != is || Size(s) != want {
					t.Errorf("%v: %v, %d, not %v, %d", s, Right(s), Size(s), is, want)
				}
			}
		}
	}
}

// P1, P2.1: where a shape is not right, every call says that there is nothing.
func TestShapesThatAreNotRight(t *testing.T) {
	for _, s := range wrongOnes() {
		if Right(s) || Size(s) != 0 {
			t.Errorf("%v: %v, %d", s, Right(s), Size(s))
		}
		for _, n := range append(far(), 0, 1, 2) {
			if at := At(s, n, 0, 0); at != -1 {
				t.Errorf("%v: place %d", s, at)
			}
			if c, y, x, is := Of(s, n); c != 0 || y != 0 || x != 0 || is {
				t.Errorf("%v: place %d is %d, %d, %d, %v", s, n, c, y, x, is)
			}
			if next, is := Conv(s, 1, n, 1); next != (api.Shape{}) || is {
				t.Errorf("%v: Conv %d: %v, %v", s, n, next, is)
			}
			if next, is := Pool(s, n); next != (api.Shape{}) || is {
				t.Errorf("%v: Pool %d: %v, %v", s, n, next, is)
			}
		}
		if at := At(s, 0, 0, 0); at != -1 {
			t.Errorf("%v: its first place is %d", s, at)
		}
	}
}

// P2.1 (B2), P2.2: places go column by column, row by row, channel by channel, and tell one another.
func TestPlaces(t *testing.T) {
	for s, size := range rightOnes() {
		i := 0
		for c := range s.C {
			for y := range s.H {
				for x := range s.W {
					if at := At(s, c, y, x); at != i {
						t.Fatalf("%v: %d, %d, %d is %d, not %d", s, c, y, x, at, i)
					}
					if gotC, gotY, gotX, is := Of(s, i); gotC != c || gotY != y || gotX != x || !is {
						t.Fatalf("%v: place %d is %d, %d, %d, %v, not %d, %d, %d", s, i, gotC, gotY, gotX, is, c, y, x)
					}
					i++
				}
			}
		}
		if i != size {
			t.Fatalf("%v has %d places, not %d", s, i, size)
		}
	}
}

// P2.1 (B2): the ends of a picture, and places just outside of each.
func TestPlacesAtBothEnds(t *testing.T) {
	for s, size := range rightOnes() {
		if At(s, 0, 0, 0) != 0 || At(s, s.C-1, s.H-1, s.W-1) != size-1 {
			t.Fatalf("%v: ends", s)
		}
		for _, l := range [][3]int{{-1, 0, 0}, {0, -1, 0}, {0, 0, -1}, {s.C, 0, 0}, {0, s.H, 0}, {0, 0, s.W}, {s.C - 1, s.H - 1, s.W}, {s.C - 1, s.H, s.W - 1}, {s.C, s.H - 1, s.W - 1}, {1, -1, s.W}, {1, 0, -1}, {0, 1, -1}, {s.C, s.H, s.W}} {
			if at := At(s, l[0], l[1], l[2]); at != -1 {
				t.Fatalf("%v: %v is %d", s, l, at)
			}
		}
		for _, i := range []int{-1, -size, size, size + 1, 2 * size} {
			if c, y, x, is := Of(s, i); c != 0 || y != 0 || x != 0 || is {
				t.Fatalf("%v: place %d is %d, %d, %d, %v", s, i, c, y, x, is)
			}
		}
	}
}

// P1, P2.1 (B2): numbers far outside.
func TestPlacesFarOutside(t *testing.T) {
	s := api.Shape{C: 2, H: 2, W: 3}
	for _, n := range far() {
		for _, l := range [][3]int{{n, 0, 0}, {0, n, 0}, {0, 0, n}, {1, n, n}, {n, 1, n}, {n, n, 2}, {n, n, n}, {n, -n, 0}} {
			if at := At(s, l[0], l[1], l[2]); at != -1 {
				t.Errorf("%v is %d", l, at)
			}
		}
		if c, y, x, is := Of(s, n); c != 0 || y != 0 || x != 0 || is {
			t.Errorf("place %d is %d, %d, %d, %v", n, c, y, x, is)
		}
	}
}

// P2.1 (B3): Conv with ordinary windows and with such at their limits.
func TestConv(t *testing.T) {
	s := api.Shape{C: 3, H: 5, W: 6}
	for _, c := range []struct {
		s               api.Shape
		out, size, step int
		want            api.Shape
	}{
		{api.Shape{C: 1, H: 4, W: 4}, 2, 3, 1, api.Shape{C: 2, H: 2, W: 2}},
		{s, 2, 3, 1, api.Shape{C: 2, H: 3, W: 4}},
		{s, 2, 3, 2, api.Shape{C: 2, H: 2, W: 2}},
		{s, 2, 2, 3, api.Shape{C: 2, H: 2, W: 2}},
		{s, 4, 1, 1, api.Shape{C: 4, H: 5, W: 6}},
		{s, 8, 2, 2, api.Shape{C: 8, H: 2, W: 3}},
		{s, 1, 5, 1, api.Shape{C: 1, H: 1, W: 2}},
		{s, 1, 5, 12, api.Shape{C: 1, H: 1, W: 1}},
		{s, 8, 1, 12, api.Shape{C: 8, H: 1, W: 1}},
		{api.Shape{C: 1, H: 1, W: 1}, 1, 1, 1, api.Shape{C: 1, H: 1, W: 1}},
		{api.Shape{C: 8, H: 1, W: 1}, 8, 1, 12, api.Shape{C: 8, H: 1, W: 1}},
		{api.Shape{C: 1, H: 12, W: 10}, 1, 1, 11, api.Shape{C: 1, H: 2, W: 1}},
		{api.Shape{C: 1, H: 12, W: 1}, 8, 1, 1, api.Shape{C: 8, H: 12, W: 1}},
		{api.Shape{C: 1, H: 4, W: 4}, 8, 1, 1, api.Shape{C: 8, H: 4, W: 4}},
		{api.Shape{C: 8, H: 4, W: 4}, 8, 4, 1, api.Shape{C: 8, H: 1, W: 1}},
	} {
		if got, is := Conv(c.s, c.out, c.size, c.step); got != c.want || !is {
			t.Errorf("%v, %d, %d, %d: %v, %v, not %v", c.s, c.out, c.size, c.step, got, is, c.want)
		}
	}
}

// P2.1 (B3): a zero shape and false, by each thing that may be wrong.
func TestConvOfNothing(t *testing.T) {
	tall, wide := api.Shape{C: 1, H: 6, W: 5}, api.Shape{C: 1, H: 5, W: 6}
	wrong := []struct {
		s               api.Shape
		out, size, step int
	}{
		{wide, 0, 1, 1}, {wide, 9, 5, 1}, {wide, -1, 1, 1},
		{wide, 1, 0, 1}, {wide, 1, 6, 1}, {tall, 1, 6, 1}, {wide, 1, 7, 1}, {wide, 1, -1, 1},
		{wide, 1, 1, 0}, {wide, 1, 1, 13}, {wide, 1, 1, -1}, {wide, 1, 5, 13},
		{wide, 5, 1, 1}, {tall, 5, 1, 1}, {wide, 8, 1, 1}, {wide, 7, 2, 1}, {api.Shape{C: 1, H: 11, W: 11}, 2, 1, 1}, {api.Shape{C: 8, H: 4, W: 4}, 9, 1, 1},
		{api.Shape{C: 1, H: 12, W: 12}, 1, 12, 1}, {api.Shape{C: 9, H: 1, W: 1}, 1, 1, 1}, {api.Shape{}, 1, 1, 1}, {api.Shape{}, 0, 0, 0},
		{api.Shape{C: -1, H: -2, W: -2}, 1, -2, 1},
	}
	for _, n := range far() {
		wrong = append(wrong, []struct {
			s               api.Shape
			out, size, step int
		}{{wide, n, 1, 1}, {wide, 1, n, 1}, {wide, 1, 1, n}, {wide, n, n, n}, {wide, 1, n, n}}...)
	}
	for _, c := range wrong {
		if got, is := Conv(c.s, c.out, c.size, c.step); got != (api.Shape{}) || is {
			t.Errorf("%v, %d, %d, %d: %v, %v", c.s, c.out, c.size, c.step, got, is)
		}
	}
}

// windows counts how many windows of size, each a step behind the one ahead, a side has room for.
func windows(side, size, step int) int {
	many := 0
	for first := 0; first+size <= side; first += step {
		many++
	}
	return many
}

// P2.1 (B3), P2.3: each window of a Conv lies within, and there is no room for one more; held against windows that are counted.
func TestWindows(t *testing.T) {
	right := rightOnes()
	for s := range right {
		for size := -1; size <= 13; size++ {
			for step := -1; step <= 14; step++ {
				fits := size >= 1 && size <= s.H && size <= s.W && step >= 1 && step <= 12
				for out := -1; out <= 10; out++ {
					want := api.Shape{}
					if fits {
						want = api.Shape{C: out, H: windows(s.H, size, step), W: windows(s.W, size, step)}
					}
					if right[want] == 0 {
						want = api.Shape{}
					}
					got, is := Conv(s, out, size, step)
					if got != want || is != (right[want] > 0) {
						t.Fatalf("%v, %d, %d, %d: %v, %v, not %v", s, out, size, step, got, is, want)
					}
					if is && !fullOfWindows(s, got, size, step) {
						t.Fatalf("%v, %d, %d, %d: windows of %v", s, out, size, step, got)
					}
				}
			}
		}
	}
}

// fullOfWindows: has the last window of next its last row and column within s, and would one more have them outside?
func fullOfWindows(s, next api.Shape, size, step int) bool {
	y, x := (next.H-1)*step+size-1, (next.W-1)*step+size-1
	return At(s, s.C-1, y, x) >= 0 && At(s, s.C-1, y+step, x) == -1 && At(s, s.C-1, y, x+step) == -1
}

// P2.1 (B3): Pool with sizes that divide, and with sizes that do not.
func TestPool(t *testing.T) {
	for _, c := range []struct {
		s    api.Shape
		size int
		want api.Shape
	}{
		{api.Shape{C: 3, H: 4, W: 8}, 1, api.Shape{C: 3, H: 4, W: 8}},
		{api.Shape{C: 3, H: 4, W: 8}, 2, api.Shape{C: 3, H: 2, W: 4}},
		{api.Shape{C: 3, H: 4, W: 8}, 4, api.Shape{C: 3, H: 1, W: 2}},
		{api.Shape{C: 3, H: 8, W: 4}, 4, api.Shape{C: 3, H: 2, W: 1}},
		{api.Shape{C: 1, H: 11, W: 11}, 11, api.Shape{C: 1, H: 1, W: 1}},
		{api.Shape{C: 1, H: 12, W: 9}, 3, api.Shape{C: 1, H: 4, W: 3}},
		{api.Shape{C: 8, H: 1, W: 1}, 1, api.Shape{C: 8, H: 1, W: 1}},
		{api.Shape{C: 3, H: 4, W: 8}, 3, api.Shape{}},
		{api.Shape{C: 3, H: 4, W: 8}, 8, api.Shape{}},
		{api.Shape{C: 3, H: 8, W: 4}, 8, api.Shape{}},
		{api.Shape{C: 3, H: 4, W: 6}, 4, api.Shape{}},
		{api.Shape{C: 3, H: 6, W: 4}, 4, api.Shape{}},
		{api.Shape{C: 3, H: 4, W: 4}, 8, api.Shape{}},
		{api.Shape{C: 3, H: 4, W: 4}, 0, api.Shape{}},
		{api.Shape{C: 3, H: 4, W: 4}, -1, api.Shape{}},
		{api.Shape{C: 3, H: 4, W: 4}, -2, api.Shape{}},
		{api.Shape{C: 1, H: 12, W: 12}, 12, api.Shape{}},
		{api.Shape{}, 1, api.Shape{}},
	} {
		if got, is := Pool(c.s, c.size); got != c.want || is != (c.want.C > 0) {
			t.Errorf("%v, %d: %v, %v, not %v", c.s, c.size, got, is, c.want)
		}
	}
	for _, n := range far() {
		if got, is := Pool(api.Shape{C: 3, H: 4, W: 8}, n); got != (api.Shape{}) || is {
			t.Errorf("%d: %v, %v", n, got, is)
		}
	}
}

// P2.4: a Pool's blocks are all of it: each place is in just one block, and no block has a place outside.
func TestBlocks(t *testing.T) {
	for s, many := range rightOnes() {
		for size := 1; size <= 13; size++ {
			next, is := Pool(s, size)
			if cut := s.H%size != 0 || s.W%size != 0; cut == is {
				t.Fatalf("%v, %d: %v", s, size, is)
			}
			if !is {
				continue
			}
			seen := map[int]bool{}
			for place := range Size(next) {
				c, y, x, _ := Of(next, place)
				for r := range size {
					for k := range size {
						seen[At(s, c, y*size+r, x*size+k)] = true
					}
				}
			}
			if seen[-1] || len(seen) != many || Size(next)*size*size != many {
				t.Fatalf("%v, %d: blocks of %v have %d places", s, size, next, len(seen))
			}
		}
	}
}

// P3: what a call answers does not hang on calls ahead of it.
func TestNothingIsKept(t *testing.T) {
	s, other := api.Shape{C: 1, H: 6, W: 6}, api.Shape{C: 2, H: 3, W: 9}
	for range 3 {
		conv, _ := Conv(s, 2, 3, 1)
		pool, _ := Pool(s, 3)
		c, y, x, is := Of(s, 35)
		if !Right(s) || Size(s) != 36 || At(s, 0, 5, 5) != 35 || c != 0 || y != 5 || x != 5 || !is || conv != (api.Shape{C: 2, H: 4, W: 4}) || pool != (api.Shape{C: 1, H: 2, W: 2}) {
			t.Errorf("%v: %v, %v", s, conv, pool)
		}
		Right(api.Shape{C: 9})
		At(other, 1, 2, 8)
		Of(other, 53)
		Conv(other, 1, 4, 1)
		Pool(other, 3)
	}
}
