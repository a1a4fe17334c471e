package chunk

import (
	"bytes"
	"math"
	"math/big"
	"slices"
	"testing"

	"symbolon/api"
)

const (
	top  = 1<<64 - 1
	last = 65535 // the greatest position
)

// draw is a number below n, and what the next one is drawn from.
func draw(from *uint64, n int) int {
	*from = *from*6364136223846793005 + 1442695040888963407
	return int(*from >> 33 % uint64(n))
}

// drawn are so many: small ones, great ones, and such as differ in one byte.
func drawn(from *uint64, many int) []uint64 {
	edges := []uint64{0, 1, 2, 255, 256, 1<<32 - 1, 1 << 32, 1<<63 - 1, 1 << 63, top, top - 1, top - 256}
	all := make([]uint64, many)
	for i := range all {
		switch draw(from, 3) {
		case 0:
			all[i] = edges[draw(from, len(edges))]
		case 1:
			all[i] = uint64(1+draw(from, 255)) << (8 * draw(from, 8))
		case 2:
			all[i] = uint64(draw(from, 1<<31))<<33 ^ uint64(draw(from, 1<<31))<<11 ^ uint64(draw(from, 1<<31))
		}
	}
	return all
}

// sizes are numbers of all lengths in bytes, such as differ in one byte, and both ends.
func sizes() []uint64 {
	list := []uint64{0, 1, 2, top, top - 1, 0x0102030405060708, 0xf1e2d3c4b5a69788}
	for k := range 8 {
		list = append(list, 1<<(8*k), 0x80<<(8*k), 0xff<<(8*k), top-0xff<<(8*k), 0x0102030405060708^1<<(8*k))
	}
	slices.Sort(list)
	return slices.Compact(list)
}

// places are positions: both ends, and those beside the seams of their bytes.
func places() []int {
	return []int{0, 1, 2, 5, 127, 128, 254, 255, 256, 257, 258, 511, 512, 4096, 32767, 32768, 65279, 65280, 65281, 65500, 65530, 65534, last}
}

// outside are no positions: below 0, above 65535, and at both ends of int; such among them as are one if bits are cut off.
func outside() []int {
	return []int{-1, -2, -255, -256, -65535, -65536, -65537, last + 1, last + 2, 65536 + 258, 1 << 17, 1 << 31, 1<<31 + 7, 1 << 32, 1<<32 + 7, -1 << 31, -1 << 32, 1 << 48, 1 << 62, -1 << 62, math.MaxInt - 1, math.MaxInt, math.MinInt, math.MinInt + 1, math.MinInt + 65536, math.MaxInt - 65535}
}

// stands tells whether so many, from at on, are all 0 to 65535, in numbers without a bound.
func stands(at, many int) bool {
	end := new(big.Int).Add(big.NewInt(int64(at)), big.NewInt(int64(many)))
	return at >= 0 && end.Cmp(big.NewInt(last+1)) <= 0
}

// inBytes is a number in so many bytes, the greatest first.
func inBytes(n uint64, many int) []byte {
	return new(big.Int).SetUint64(n).FillBytes(make([]byte, many))
}

// modelPut is N1, written out.
func modelPut(at int, l []uint64) []byte {
	if len(l) < 1 || len(l) > 6 || !stands(at, len(l)) {
		return nil
	}
	out := inBytes(uint64(at), 2)
	for _, n := range l {
		out = append(out, inBytes(n, 8)...)
	}
	return out
}

// modelGet is N1, written out: which lengths there are, one by one.
func modelGet(b []byte) (int, []uint64, bool) {
	many := slices.Index([]int{10, 18, 26, 34, 42, 50}, len(b)) + 1
	if many == 0 {
		return 0, nil, false
	}
	at := int(b[0])*256 + int(b[1])
	var l []uint64
	for i := range many {
		l = append(l, new(big.Int).SetBytes(b[2+8*i:10+8*i]).Uint64())
	}
	if at+many-1 > last {
		return 0, nil, false
	}
	return at, l, true
}

// modelCut is N2, written out: number by number, a new chunk at each sixth.
func modelCut(at int, l []uint64) [][]byte {
	if len(l) == 0 || !stands(at, len(l)) {
		return nil
	}
	var out [][]byte
	for i, n := range l {
		if i%6 == 0 {
			out = append(out, inBytes(uint64(at+i), 2))
		}
		out[i/6] = append(out[i/6], inBytes(n, 8)...)
	}
	return out
}

// modelGather is N3, written out: position by position, the first chunk that has it.
func modelGather(at, many int, l [][]byte) ([]uint64, bool) {
	if many < 0 || many > 4096 {
		return nil, false
	}
	var out []uint64
	for i := range many {
		where := new(big.Int).Add(big.NewInt(int64(at)), big.NewInt(int64(i)))
		at := slices.IndexFunc(l, func(b []byte) bool { _, is := has(b, where); return is })
		if at < 0 {
			return nil, false
		}
		n, _ := has(l[at], where)
		out = append(out, n)
	}
	return out, true
}

// has is the number that a chunk's bytes have for a position, if they are one's and it has that.
func has(b []byte, where *big.Int) (uint64, bool) {
	from, l, _ := modelGet(b)
	for i, n := range l {
		if where.Cmp(big.NewInt(int64(from+i))) == 0 {
			return n, true
		}
	}
	return 0, false
}

// holdPut holds Put against N1.
func holdPut(t *testing.T, at int, l []uint64) {
	t.Helper()
	if got, want := Put(at, l), modelPut(at, l); !bytes.Equal(got, want) {
		t.Fatalf("Put(%d, %#x): %v, not %v", at, l, got, want)
	}
}

// holdGet holds Get against N1.
func holdGet(t *testing.T, b []byte) {
	t.Helper()
	at, l, is := Get(b)
	wantAt, wantL, wantIs := modelGet(b)
	if at != wantAt || !slices.Equal(l, wantL) || is != wantIs {
		t.Fatalf("Get(%v): %d, %#x, %v, not %d, %#x, %v", b, at, l, is, wantAt, wantL, wantIs)
	}
}

// holdCut holds Cut against N2.
func holdCut(t *testing.T, at int, l []uint64) {
	t.Helper()
	if got, want := Cut(at, l), modelCut(at, l); !slices.EqualFunc(got, want, bytes.Equal) {
		t.Fatalf("Cut(%d, %d numbers): %v, not %v", at, len(l), got, want)
	}
}

// holdGather holds Gather against N3.
func holdGather(t *testing.T, at, many int, l [][]byte) {
	t.Helper()
	got, is := Gather(at, many, l)
	want, wantIs := modelGather(at, many, l)
	if !slices.Equal(got, want) || is != wantIs {
		t.Fatalf("Gather(%d, %d, %d chunks): %#x, %v, not %#x, %v", at, many, len(l), got, is, want, wantIs)
	}
}

// P14.1 (N1): the bytes that are known; the example of the chapter first.
func TestKnownBytes(t *testing.T) {
	for _, c := range []struct {
		at   int
		l    []uint64
		want string
	}{
		{258, []uint64{1}, "\x01\x02\x00\x00\x00\x00\x00\x00\x00\x01"},
		{0, []uint64{0}, "\x00\x00\x00\x00\x00\x00\x00\x00\x00\x00"},
		{0, []uint64{top}, "\x00\x00\xff\xff\xff\xff\xff\xff\xff\xff"},
		{65535, []uint64{1 << 63}, "\xff\xff\x80\x00\x00\x00\x00\x00\x00\x00"},
		{65534, []uint64{0x0102030405060708, 256}, "\xff\xfe\x01\x02\x03\x04\x05\x06\x07\x08\x00\x00\x00\x00\x00\x00\x01\x00"},
		{65530, []uint64{1, 2, 3, 4, 5, 6}, "\xff\xfa\x00\x00\x00\x00\x00\x00\x00\x01\x00\x00\x00\x00\x00\x00\x00\x02\x00\x00\x00\x00\x00\x00\x00\x03\x00\x00\x00\x00\x00\x00\x00\x04\x00\x00\x00\x00\x00\x00\x00\x05\x00\x00\x00\x00\x00\x00\x00\x06"},
		{65530, []uint64{1, 2, 3, 4, 5, 6, 7}, ""},
		{65531, []uint64{1, 2, 3, 4, 5, 6}, ""},
		{65535, []uint64{1, 2}, ""},
		{65536, []uint64{1}, ""},
		{-1, []uint64{1}, ""},
		{-1, []uint64{1, 2}, ""},
		{0, nil, ""},
		{0, []uint64{}, ""},
	} {
		if got := Put(c.at, c.l); string(got) != c.want {
			t.Errorf("Put(%d, %#x): %v, not %v", c.at, c.l, got, []byte(c.want))
		}
		if at, l, is := Get([]byte(c.want)); c.want != "" && (at != c.at || !slices.Equal(l, c.l) || !is) {
			t.Errorf("Get(%v): %d, %#x, %v", []byte(c.want), at, l, is)
		}
	}
}

// P14.1 (N1): Put, for positions at both ends, seams, and none, and for none to more numbers than a chunk has.
func TestPut(t *testing.T) {
	from := uint64(1)
	for _, at := range append(places(), outside()...) {
		for _, many := range []int{0, 1, 2, 3, 4, 5, 6, 7, 8, 12, 255, 256, 257, 4096} {
			holdPut(t, at, drawn(&from, many))
		}
	}
	holdPut(t, 0, nil)
	for at := last - 20; at < last+20; at++ {
		for many := range 9 {
			holdPut(t, at, drawn(&from, many))
		}
	}
}

// P14.1 (N1): Put, for each position, and for numbers of all sizes at each place of a chunk.
func TestPutAll(t *testing.T) {
	for at := range last + 1 {
		holdPut(t, at, []uint64{uint64(at) * 0x9e3779b97f4a7c15})
	}
	for _, n := range sizes() {
		for many := 1; many <= api.MaxChunk; many++ {
			for i := range many {
				l := make([]uint64, many)
				l[i] = n
				holdPut(t, 300, l)
				for j := range l {
					l[j] = uint64(j) * 0x0101010101010101
				}
				l[i] = n
				holdPut(t, 300, l)
			}
		}
	}
}

// P14.1 (N1): Get, for bytes of every length, from none to some more than a chunk's greatest one, and of all that stand at their front.
func TestGet(t *testing.T) {
	from := uint64(2)
	holdGet(t, nil)
	for many := range 140 {
		for _, at := range places() {
			b := make([]byte, many)
			for i := range b {
				b[i] = byte(draw(&from, 256))
			}
			copy(b, inBytes(uint64(at), 2))
			holdGet(t, b)
			holdGet(t, b[:many:many])
		}
		holdGet(t, make([]byte, many))
		holdGet(t, bytes.Repeat([]byte{255}, many))
	}
	for _, many := range []int{514, 65536 + 10, 1<<20 + 10} {
		holdGet(t, make([]byte, many))
	}
}

// P14.1 (N1): Get, for chunks whose last position is 65535, one less, and one more; nothing beside a false.
func TestGetEnd(t *testing.T) {
	for many := 1; many <= api.MaxChunk+1; many++ {
		for at := last - 10; at <= last; at++ {
			b := append(inBytes(uint64(at), 2), bytes.Repeat([]byte{7}, 8*many)...)
			holdGet(t, b)
			if _, _, is := Get(b); is != (many <= 6 && at+many-1 <= last) {
				t.Errorf("position %d, %d numbers: %v", at, many, is)
			}
			if got, l, is := Get(b); !is && (got != 0 || len(l) != 0) {
				t.Errorf("position %d, %d numbers: %d and %v beside a false", at, many, got, l)
			}
		}
	}
}

// P14.2 (there and back): a chunk is got from its bytes, whose length tells how many numbers it has.
func TestThereAndBack(t *testing.T) {
	from := uint64(3)
	for _, at := range places() {
		for many := 1; many <= api.MaxChunk && at+many-1 <= last; many++ {
			for range 20 {
				l := drawn(&from, many)
				b := Put(at, l)
				if len(b) != 2+8*many {
					t.Fatalf("Put(%d, %#x): %d bytes", at, l, len(b))
				}
				if gotAt, gotL, is := Get(b); gotAt != at || !slices.Equal(gotL, l) || !is {
					t.Fatalf("Put(%d, %#x), got: %d, %#x, %v", at, l, gotAt, gotL, is)
				}
			}
		}
	}
}

// P14.2 (there and back): what is got of bytes has these bytes, so that no others are its.
func TestBackAndThere(t *testing.T) {
	from := uint64(4)
	for range 20000 {
		b := make([]byte, 2+8*(1+draw(&from, 6)))
		for i := range b {
			b[i] = byte(draw(&from, 256))
		}
		if draw(&from, 2) == 0 {
			b[0] = 255
			b[1] = byte(240 + draw(&from, 16))
		}
		at, l, is := Get(b)
		if is && !bytes.Equal(Put(at, l), b) {
			t.Fatalf("Get(%v), put: %v", b, Put(at, l))
		}
		if !is && b[0] != 255 {
			t.Fatalf("Get(%v): none", b)
		}
	}
}

// P14.2 (these are its alone): unlike chunks have unlike bytes, those among them that differ in one byte, in their order, or in how many there are.
func TestUnlike(t *testing.T) {
	seen := map[string]string{}
	meet := func(at int, l []uint64) {
		chunk := string(inBytes(uint64(at), 8))
		for _, n := range l {
			chunk += string(inBytes(n, 8))
		}
		b := string(Put(at, l))
		if other, is := seen[b]; is && other != chunk {
			t.Fatalf("Put(%d, %#x): %v, as another one's", at, l, []byte(b))
		}
		seen[b] = chunk
	}
	for _, at := range []int{0, 1, 256, 257, 65280, 65529} {
		for _, n := range sizes() {
			meet(at, []uint64{n})
			meet(at, []uint64{n, 0})
			meet(at, []uint64{0, n})
			meet(at, []uint64{0, 0, 0, 0, 0, n})
			meet(at, []uint64{n, 0, 0, 0, 0, 0})
			meet(at, []uint64{n, 1, 2})
			meet(at, []uint64{1, n, 2})
			meet(at, []uint64{2, 1, n})
		}
	}
	for at := range last + 1 {
		meet(at, []uint64{5})
	}
}

// P14.1 (N2): Cut, for none to many times as many numbers as a chunk has, at positions of all kinds.
func TestCut(t *testing.T) {
	from := uint64(5)
	for _, at := range append(places(), outside()...) {
		holdCut(t, at, nil)
		holdCut(t, at, []uint64{})
		for _, many := range []int{1, 2, 5, 6, 7, 11, 12, 13, 14, 18, 19, 100, 255, 256, 258, 1023, 4096, 4097} {
			holdCut(t, at, drawn(&from, many))
		}
	}
}

// P14.1 (N2): Cut, for such numbers whose last position is 65535, one less, and one more.
func TestCutEnd(t *testing.T) {
	from := uint64(6)
	for many := 1; many < 40; many++ {
		for end := last - 3; end <= last+7; end++ {
			at := end - many + 1
			l := drawn(&from, many)
			holdCut(t, at, l)
			if got := Cut(at, l); (len(got) > 0) != (end <= last) {
				t.Fatalf("Cut(%d, %d numbers): %d chunks", at, many, len(got))
			}
		}
	}
	all := drawn(&from, last+1)
	for _, at := range []int{0, 1, -1, last} {
		holdCut(t, at, all)
		holdCut(t, at, all[:last])
	}
	holdCut(t, 0, append(all, 1))
	if got := Cut(0, all); len(got) != 10923 || len(got[10922]) != 2+8*4 {
		t.Errorf("all positions: %d chunks", len(got))
	}
}

// P14.1 (N2): each chunk that is cut is one, of MaxChunk numbers but the last one, behind the one before.
func TestCutChunks(t *testing.T) {
	from := uint64(7)
	for many := range 60 {
		l := drawn(&from, many)
		var back []uint64
		cut := Cut(700, l)
		for i, b := range cut {
			at, some, is := Get(b)
			if !is || at != 700+6*i || (len(some) != 6 && i < len(cut)-1) {
				t.Fatalf("%d numbers, chunk %d: %d, %#x, %v", many, i, at, some, is)
			}
			back = append(back, some...)
		}
		if !slices.Equal(back, l) {
			t.Fatalf("%d numbers: %#x, not %#x", many, back, l)
		}
	}
}

// P14.1 (N3): what is known of Gather.
func TestKnownGathers(t *testing.T) {
	a, b, c := Put(10, []uint64{1, 2, 3}), Put(12, []uint64{33, 4}), Put(14, []uint64{5})
	other := Put(10, []uint64{11, 22})
	for i, x := range []struct {
		at, many int
		l        [][]byte
		want     []uint64
		is       bool
	}{
		{10, 3, [][]byte{a}, []uint64{1, 2, 3}, true},
		{11, 1, [][]byte{a}, []uint64{2}, true},
		{10, 4, [][]byte{a}, nil, false},
		{9, 2, [][]byte{a}, nil, false},
		{10, 5, [][]byte{a, b, c}, []uint64{1, 2, 3, 4, 5}, true},
		{10, 5, [][]byte{c, b, a}, []uint64{1, 2, 33, 4, 5}, true},
		{10, 5, [][]byte{c, a}, nil, false},
		{10, 4, [][]byte{other, b, a}, []uint64{11, 22, 33, 4}, true},
		{10, 4, [][]byte{b, a, other}, []uint64{1, 2, 33, 4}, true},
		{10, 2, [][]byte{nil, {}, {1}, other[:9], append(slices.Clone(other), 0), other}, []uint64{11, 22}, true},
		{10, 2, [][]byte{nil, other[:9]}, nil, false},
		{10, 0, [][]byte{a}, nil, true},
		{10, 0, nil, nil, true},
		{-1, 0, nil, nil, true},
		{math.MinInt, 0, nil, nil, true},
		{math.MaxInt, 0, [][]byte{a}, nil, true},
		{10, 1, nil, nil, false},
		{10, -1, [][]byte{a}, nil, false},
		{10, 4097, [][]byte{a}, nil, false},
		{math.MaxInt, 1, [][]byte{a}, nil, false},
		{math.MinInt, 1, [][]byte{a}, nil, false},
		{65535, 1, [][]byte{Put(65535, []uint64{9})}, []uint64{9}, true},
		{65535, 2, [][]byte{Put(65535, []uint64{9}), Put(0, []uint64{8})}, nil, false},
	} {
		if got, is := Gather(x.at, x.many, x.l); is != x.is || !slices.Equal(got, x.want) {
			t.Errorf("%d: Gather(%d, %d): %#x, %v, not %#x, %v", i, x.at, x.many, got, is, x.want, x.is)
		}
	}
}

// P14.1 (N3): Gather of many from below 0 to above MaxRow, from positions of all kinds.
func TestGatherRanges(t *testing.T) {
	from := uint64(8)
	front := Cut(0, drawn(&from, 4300))
	end := Cut(last-4299, drawn(&from, 4300))
	for _, l := range [][][]byte{nil, {}, front, end} {
		for _, at := range append([]int{0, 1, 203, 204, 205, 4299, 4300, 4301, 30000, 61236, 61237, 61440, 61441, last - 1, last}, outside()...) {
			for _, many := range []int{math.MinInt, math.MinInt + 1, -1 << 32, -4096, -2, -1, 0, 1, 2, 4097, 4098, 65535, 65536, 1 << 32, 1<<32 + 1, 1 << 62, math.MaxInt - 1, math.MaxInt} {
				holdGather(t, at, many, l)
			}
		}
	}
	for _, l := range [][][]byte{front, end} {
		at, _, _ := Get(l[0])
		for _, x := range [][2]int{{at, 4095}, {at, 4096}, {at, 4097}, {at + 204, 4096}, {at + 205, 4096}, {at - 1, 4096}} {
			holdGather(t, x[0], x[1], l)
		}
	}
}

// P14.1 (N3): Gather of few positions, all ranges about them, out of chunks that are drawn: in any order, twice, unlike ones of one position, ones that overlap, others between, some missing, and bytes that are none's.
func TestGatherDrawn(t *testing.T) {
	from := uint64(9)
	whole := 0
	for range 3000 {
		base := []int{0, 1, 250, 5000, last - 15}[draw(&from, 5)]
		var l [][]byte
		for range draw(&from, 12) {
			at := base + draw(&from, 16)
			b := modelPut(at, drawn(&from, 1+draw(&from, min(6, last-at+1))))
			switch draw(&from, 8) {
			case 0:
				b = b[:draw(&from, len(b))]
			case 1:
				b = append(b, make([]byte, 1+draw(&from, 60))...)
			case 2:
				l = append(l, b)
			}
			l = append(l, b)
		}
		at, many := base-1+draw(&from, 8), draw(&from, 12)
		holdGather(t, at, many, l)
		if _, is := Gather(at, many, l); is && many > 0 {
			whole++
		}
	}
	if whole < 300 {
		t.Errorf("only %d were whole", whole)
	}
}

// P14.1 (N3): where any one chunk is missing, or spoilt, there is none; of all others there is.
func TestGatherMissing(t *testing.T) {
	from := uint64(10)
	l := drawn(&from, 40)
	cut := Cut(1000, l)
	for i, b := range cut {
		without := slices.Concat(cut[:i], cut[i+1:])
		for _, bad := range [][]byte{nil, b[:len(b)-1], append(slices.Clone(b), 0), b[:2], b[:1]} {
			for _, all := range [][][]byte{without, slices.Concat(cut[:i], [][]byte{bad}, cut[i+1:]), append(slices.Clone(without), bad)} {
				holdGather(t, 1000, 40, all)
				if got, is := Gather(1000, 40, all); is || len(got) != 0 {
					t.Fatalf("without chunk %d: %#x, %v", i, got, is)
				}
				holdGather(t, 1000, 6*i, all)
				holdGather(t, 1000, 6*i+1, all)
			}
		}
	}
}

// P14.3 (however they come): what is cut is gathered again, all of it and each piece, in whatever order its chunks come, and however often.
func TestHoweverTheyCome(t *testing.T) {
	from := uint64(11)
	for _, many := range []int{1, 2, 5, 6, 7, 12, 13, 40, 300, 4095, 4096} {
		for _, at := range []int{0, 1, 255, 7777, last + 1 - many} {
			l := drawn(&from, many)
			cut := Cut(at, l)
			orders := [][][]byte{cut, slices.Clone(cut), slices.Concat(cut, cut), nil, nil}
			slices.Reverse(orders[1])
			for k := 3; k < 5; k++ {
				for _, b := range cut {
					for range 1 + draw(&from, 3) {
						orders[k] = slices.Insert(orders[k], draw(&from, len(orders[k])+1), b)
					}
				}
			}
			for _, o := range orders {
				if got, is := Gather(at, many, o); !is || !slices.Equal(got, l) {
					t.Fatalf("%d numbers from %d on: %v", many, at, is)
				}
				i := draw(&from, many)
				n := 1 + draw(&from, many-i)
				if got, is := Gather(at+i, n, o); !is || !slices.Equal(got, l[i:i+n]) {
					t.Fatalf("%d of %d numbers from %d on: %v", n, many, at, is)
				}
			}
		}
	}
}

// P14.3 (however they come): all orders of few chunks, with those of other numbers between.
func TestAllOrders(t *testing.T) {
	l := []uint64{1, 2, 3, 4, 5, 6, 7, 8, 9, 10, 11, 12, 13, 14, 15, 16, 17, 18, 19, 20, 21, 22, 23, top}
	cut := Cut(9, l)
	rest := append(Cut(9+len(l), l), Cut(0, l[:9])...)
	var arrange func(come [][]byte, left [][]byte)
	arrange = func(come, left [][]byte) {
		if len(left) == 0 {
			if got, is := Gather(9, len(l), come); !is || !slices.Equal(got, l) {
				t.Fatalf("%v: %v, %v", come, got, is)
			}
			return
		}
		for i, b := range left {
			arrange(append(slices.Clone(come), rest[i], b), slices.Concat(left[:i], left[i+1:]))
		}
	}
	arrange(nil, cut)
}

// fill and spoil are what stands in spare room, ahead and after.
func fill[T any](l []T, with T) []T {
	room := l[:cap(l)]
	for i := len(l); i < len(room); i++ {
		room[i] = with
	}
	return l
}

func spoil[T any](l []T, with T) {
	for i := range l[:cap(l)] {
		l[:cap(l)][i] = with
	}
}

// P3: what is handed to Put and Cut, and its spare room, stays as it was; what comes out is new memory.
func TestKeepsNumbers(t *testing.T) {
	for _, many := range []int{0, 1, 5, 6, 7, 20} {
		for _, at := range []int{0, 3, last, -1} {
			room := make([]uint64, many+9)
			for i := range room {
				room[i] = uint64(i)*0x0101010101010101 + 1
			}
			was := slices.Clone(room)
			l := room[:many]
			first, cut := Put(at, l), Cut(at, l)
			put, cuts := slices.Clone(first), modelCut(at, was[:many])
			if !slices.Equal(room, was) {
				t.Fatalf("%d numbers: %v, not %v", many, room, was)
			}
			spoil(first, 99)
			for _, b := range cut {
				spoil(b, 98)
			}
			spoil(cut, nil)
			if !slices.Equal(room, was) || !bytes.Equal(Put(at, l), put) || !slices.EqualFunc(Cut(at, l), cuts, bytes.Equal) {
				t.Fatalf("%d numbers: an answer shares its memory", many)
			}
			spoil(room, 77)
			holdPut(t, at, l)
			holdCut(t, at, l)
		}
	}
}

// P3: an answer of Put, and of Cut, stays as it is whatever becomes of the numbers; the lists of one Cut share no memory, their spare room neither.
func TestCutSharesNone(t *testing.T) {
	from := uint64(12)
	l := drawn(&from, 26)
	want := modelCut(40, l)
	cut, put := Cut(40, l), Put(40, l[:6])
	spoil(l, 5)
	if !slices.EqualFunc(cut, want, bytes.Equal) || !bytes.Equal(put, want[0]) {
		t.Fatal("an answer shares the memory of its numbers")
	}
	for i := range cut {
		spoil(cut[i], byte(i))
	}
	for i, b := range cut {
		for _, x := range b[:cap(b)] {
			if x != byte(i) {
				t.Fatalf("chunk %d shares its memory", i)
			}
		}
	}
}

// P3: what is handed to Get, and its spare room, stays as it was; what comes out is new memory.
func TestKeepsBytes(t *testing.T) {
	from := uint64(13)
	for _, many := range []int{0, 1, 9, 10, 11, 18, 42, 50, 58} {
		room := make([]byte, many+70)
		for i := range room {
			room[i] = byte(draw(&from, 200))
		}
		was := slices.Clone(room)
		b := room[:many]
		at, l, is := Get(b)
		_, again, _ := Get(b)
		if !bytes.Equal(room, was) {
			t.Fatalf("%d bytes: %v, not %v", many, room, was)
		}
		wantAt, want, wantIs := modelGet(was[:many])
		spoil(l, 99)
		if !bytes.Equal(room, was) || !slices.Equal(again, want) {
			t.Fatalf("%d bytes: an answer shares its memory", many)
		}
		spoil(room, 3)
		if at != wantAt || is != wantIs || !slices.Equal(again, want) {
			t.Fatalf("%d bytes: an answer shares the memory of its bytes", many)
		}
		holdGet(t, b)
	}
}

// P3: what is handed to Gather, its lists and all spare room, stays as it was; what comes out is new memory, and hangs on what stands there now.
func TestKeepsChunks(t *testing.T) {
	from := uint64(14)
	numbersOf := drawn(&from, 20)
	cut := Cut(50, numbersOf)
	cut = append(cut, []byte{1, 2, 3}, cut[0], nil)
	room := fill(append(make([][]byte, 0, len(cut)+5), cut...), []byte{4, 5})
	for i := range cut {
		room[i] = fill(append(make([]byte, 0, len(cut[i])+5), cut[i]...), 44)
	}
	was := make([][]byte, cap(room))
	for i, b := range room[:cap(room)] {
		was[i] = slices.Clone(b[:cap(b)])
	}
	kept := func() bool {
		return slices.EqualFunc(room[:cap(room)], was, func(x, y []byte) bool { return bytes.Equal(x[:cap(x)], y) })
	}
	for _, many := range []int{-1, 0, 1, 20, 21, 4097} {
		got, _ := Gather(50, many, room)
		again, is := Gather(50, many, room)
		if !kept() || !slices.Equal(got, again) {
			t.Fatalf("%d: what was handed in has changed", many)
		}
		spoil(got, 99)
		if third, thirdIs := Gather(50, many, room); !kept() || !slices.Equal(third, again) || thirdIs != is {
			t.Fatalf("%d: an answer shares its memory", many)
		}
	}
	got, _ := Gather(50, 20, room)
	spoil(room[0], 0)
	room[1][9] ^= 1
	if !slices.Equal(got, numbersOf) {
		t.Error("an answer shares the memory of its chunks")
	}
	holdGather(t, 50, 20, room)
	holdGather(t, 56, 14, room)
}

// P1, P3: the same answer again, whatever was asked in between, and whoever asks beside.
func TestSameAgain(t *testing.T) {
	from := uint64(15)
	l := drawn(&from, 60)
	cut := Cut(5, l)
	done := make(chan bool)
	for k := range 4 {
		go func() {
			ok := true
			for i := range 200 {
				at := 5 + (i*7+k)%50
				got, is := Gather(at, 10, cut)
				ok = ok && is && slices.Equal(got, l[at-5:at+5])
				Put(-1, nil)
				Get(nil)
				ok = ok && slices.EqualFunc(Cut(5, l), cut, bytes.Equal)
			}
			done <- ok
		}()
	}
	for range 4 {
		if !<-done {
			t.Error("an answer hangs on others")
		}
	}
}
