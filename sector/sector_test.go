package sector

import (
	"bytes"
	"math"
	"math/big"
	"slices"
	"testing"

	"symbolon/api"
)

// draw is a number below n, and what the next one is drawn from.
func draw(from *uint64, n int) int {
	*from = *from*6364136223846793005 + 1442695040888963407
	return int(*from >> 33 % uint64(n))
}

// bytesOf are so many that are drawn, noughts among them.
func bytesOf(from *uint64, many int) []byte {
	b := make([]byte, many)
	for i := range b {
		b[i] = byte(draw(from, 256) * draw(from, 2))
	}
	return b
}

// modelRight is the chapter's words, written out in numbers without a bound.
func modelRight(s api.Sector) bool {
	for _, x := range []struct{ n, least, greatest int64 }{
		{s.Gen, 1, 281474976710656},
		{int64(s.Place), 0, 4096},
		{int64(s.Parts), 1, 32},
		{int64(s.Kept), 0, 1000},
		{int64(len(s.Body)), 1, 50},
	} {
		n := big.NewInt(x.n)
		if n.Cmp(big.NewInt(x.least)) < 0 || n.Cmp(big.NewInt(x.greatest)) > 0 {
			return false
		}
	}
	return true
}

// inBytes is a number in so many bytes, the greatest part first.
func inBytes(n int64, many int) []byte { return big.NewInt(n).FillBytes(make([]byte, many)) }

// modelPut is the chapter's words, written out: each field's bytes behind those of the one before, then noughts up to 64.
func modelPut(s api.Sector) []byte {
	if !modelRight(s) {
		return nil
	}
	all := slices.Concat(inBytes(s.Gen, 8), inBytes(int64(s.Place), 2), inBytes(int64(s.Parts), 1), inBytes(int64(s.Kept), 2), inBytes(int64(len(s.Body)), 1), s.Body)
	for len(all) < 64 {
		all = append(all, 0)
	}
	return all
}

// modelGet is the chapter's words, written out: what may be a sector is one if it has these very bytes.
func modelGet(b []byte) (api.Sector, bool) {
	if len(b) != 64 || int(b[13]) > 50 {
		return api.Sector{}, false
	}
	number := func(from, to int) int { return int(new(big.Int).SetBytes(b[from:to]).Uint64()) }
	s := api.Sector{Gen: int64(number(0, 8)), Place: number(8, 10), Parts: number(10, 11), Kept: number(11, 13), Body: slices.Clone(b[14 : 14+number(13, 14)])}
	if !bytes.Equal(modelPut(s), b) {
		return api.Sector{}, false
	}
	return s, true
}

// alike tells whether two sectors are.
func alike(a, b api.Sector) bool {
	return a.Gen == b.Gen && a.Place == b.Place && a.Parts == b.Parts && a.Kept == b.Kept && bytes.Equal(a.Body, b.Body)
}

// hold holds Right, Put, and Get of what was put, against the chapter's words.
func hold(t *testing.T, s api.Sector) {
	t.Helper()
	if got, want := Right(s), modelRight(s); got != want {
		t.Fatalf("Right(%v): %v", s, got)
	}
	b := Put(s)
	if want := modelPut(s); !bytes.Equal(b, want) {
		t.Fatalf("Put(%v): %v, not %v", s, b, want)
	}
	back, is := Get(b)
	if is != modelRight(s) || is && !alike(back, s) {
		t.Fatalf("Put(%v), got: %v, %v", s, back, is)
	}
}

// holdGet holds Get against the chapter's words; it tells whether there was a sector.
func holdGet(t *testing.T, b []byte) bool {
	t.Helper()
	got, is := Get(b)
	want, wantIs := modelGet(b)
	if is != wantIs || !alike(got, want) {
		t.Fatalf("Get(%v): %v, %v, not %v, %v", b, got, is, want, wantIs)
	}
	if is && !Right(got) {
		t.Fatalf("Get(%v): %v, which is not right", b, got)
	}
	return is
}

// bounds are a field's least and greatest number, and those beside them.
func bounds(least, greatest int) []int {
	return []int{least - 1, least, least + 1, greatest - 1, greatest, greatest + 1}
}

// outside are numbers that no field may have: below 0, at both ends of int, and such as are in bounds if bits are cut off.
func outside() []int {
	return []int{-1, -2, -5, -256, -65535, -1 << 31, -1<<31 + 5, -1 << 32, -1<<48 + 5, -1 << 62, math.MinInt, math.MinInt + 1, math.MinInt + 5, 1<<48 + 1, 1<<48 + 5, 1<<49 + 5, 1<<56 + 5, 1 << 62, 1<<62 + 5, math.MaxInt - 1, math.MaxInt}
}

// gens are generations of all lengths in bytes, such as differ in one byte, both ends, and those beside them.
func gens() []int64 {
	list := []int64{1, 2, 3, 5, 0x010203040506, 0xf1e2d3c4b5a6, 1<<48 - 2, 1<<48 - 1, 1 << 48}
	for k := range 6 {
		list = append(list, 1<<(8*k), 0x80<<(8*k), 0xff<<(8*k), 0xff<<(8*k)-1, 0x010203040506^1<<(8*k))
	}
	list = slices.DeleteFunc(list, func(n int64) bool { return n == 0 })
	slices.Sort(list)
	return slices.Compact(list)
}

// drawn is a right sector, often at an end.
func drawn(from *uint64) api.Sector {
	pick := func(least, greatest int) int {
		return []int{least, greatest, least + draw(from, greatest-least+1)}[draw(from, 3)]
	}
	all := gens()
	gen := []int64{all[draw(from, len(all))], 1 + int64(draw(from, 1<<24))<<24 + int64(draw(from, 1<<24))}[draw(from, 2)]
	return api.Sector{Gen: gen, Place: pick(0, 4096), Parts: pick(1, 32), Kept: pick(0, 1000), Body: bytesOf(from, pick(1, 50))}
}

// plain is a right sector whose fields all have bytes of their own.
func plain() api.Sector {
	return api.Sector{Gen: 0x010203040506, Place: 0x0708, Parts: 9, Kept: 0x0102, Body: []byte("body")}
}

// P16.1 (P1), P16.3 (noughts): the bytes that are known; the example of the chapter first.
func TestKnownBytes(t *testing.T) {
	if s, is := Get(make([]byte, 64)); is || !alike(s, api.Sector{}) {
		t.Errorf("noughts: %v, %v", s, is)
	}
	full := string(bytes.Repeat([]byte{7}, 50))
	for _, c := range []struct {
		s     api.Sector
		front string
	}{
		{api.Sector{Gen: 1, Place: 0, Parts: 1, Kept: 0, Body: []byte{0}}, "\x00\x00\x00\x00\x00\x00\x00\x01\x00\x00\x01\x00\x00\x01\x00"},
		{api.Sector{Gen: 1, Place: 0, Parts: 1, Kept: 0, Body: []byte{0, 0}}, "\x00\x00\x00\x00\x00\x00\x00\x01\x00\x00\x01\x00\x00\x02\x00\x00"},
		{api.Sector{Gen: 1 << 48, Place: 4096, Parts: 32, Kept: 1000, Body: []byte(full)}, "\x00\x01\x00\x00\x00\x00\x00\x00\x10\x00\x20\x03\xe8\x32" + full},
		{api.Sector{Gen: 0x010203040506, Place: 0x0708, Parts: 9, Kept: 0x0102, Body: []byte("body")}, "\x00\x00\x01\x02\x03\x04\x05\x06\x07\x08\x09\x01\x02\x04body"},
		{api.Sector{Gen: 255, Place: 255, Parts: 31, Kept: 255, Body: []byte{255}}, "\x00\x00\x00\x00\x00\x00\x00\xff\x00\xff\x1f\x00\xff\x01\xff"},
		{api.Sector{Gen: 256, Place: 256, Parts: 16, Kept: 256, Body: []byte{0, 1}}, "\x00\x00\x00\x00\x00\x00\x01\x00\x01\x00\x10\x01\x00\x02\x00\x01"},
	} {
		want := make([]byte, 64)
		copy(want, c.front)
		if got := Put(c.s); !bytes.Equal(got, want) || !Right(c.s) {
			t.Errorf("Put(%v): %v, not %v", c.s, got, want)
		}
		if got, is := Get(want); !is || !alike(got, c.s) {
			t.Errorf("Get(%v): %v, %v, not %v", want, got, is, c.s)
		}
	}
}

// P16.1 (P1): a sector that is wrong in one field alone, whichever: not right, without bytes.
func TestKnownWrong(t *testing.T) {
	for i, wrong := range []func(s *api.Sector){
		func(s *api.Sector) { s.Gen = 0 },
		func(s *api.Sector) { s.Gen = -1 },
		func(s *api.Sector) { s.Gen = 1<<48 + 1 },
		func(s *api.Sector) { s.Gen = math.MinInt64 },
		func(s *api.Sector) { s.Gen = math.MaxInt64 },
		func(s *api.Sector) { s.Place = -1 },
		func(s *api.Sector) { s.Place = 4097 },
		func(s *api.Sector) { s.Place = 65536 },
		func(s *api.Sector) { s.Parts = 0 },
		func(s *api.Sector) { s.Parts = 33 },
		func(s *api.Sector) { s.Parts = 257 },
		func(s *api.Sector) { s.Kept = -1 },
		func(s *api.Sector) { s.Kept = 1001 },
		func(s *api.Sector) { s.Kept = 65536 },
		func(s *api.Sector) { s.Body = nil },
		func(s *api.Sector) { s.Body = []byte{} },
		func(s *api.Sector) { s.Body = make([]byte, 51) },
		func(s *api.Sector) { s.Body = make([]byte, 257) },
		func(s *api.Sector) { *s = api.Sector{} },
	} {
		s := plain()
		wrong(&s)
		if Right(s) || len(Put(s)) != 0 {
			t.Errorf("%d: %v: %v, %v", i, s, Right(s), Put(s))
		}
		hold(t, s)
	}
	hold(t, plain())
}

// P16.1 (P1): each field at its ends and beside them, with all others so too.
func TestAllBounds(t *testing.T) {
	right := 0
	for _, gen := range append(bounds(1, 1<<48), -1) {
		for _, place := range bounds(0, 4096) {
			for _, parts := range append(bounds(1, 32), -1) {
				for _, kept := range bounds(0, 1000) {
					for _, many := range []int{0, 1, 2, 49, 50, 51} {
						s := api.Sector{Gen: int64(gen), Place: place, Parts: parts, Kept: kept, Body: bytes.Repeat([]byte{3}, many)}
						hold(t, s)
						if Right(s) {
							right++
						}
					}
				}
			}
		}
	}
	if right != 4*4*4*4*4 {
		t.Errorf("%d were right", right)
	}
}

// P16.1 (P1): fields far out of bounds, each alone, and all at once.
func TestFarOut(t *testing.T) {
	for _, n := range outside() {
		for i := range 5 {
			s := plain()
			if i == 0 || i == 4 {
				s.Gen = int64(n)
			}
			if i == 1 || i == 4 {
				s.Place = n
			}
			if i == 2 || i == 4 {
				s.Parts = n
			}
			if i == 3 || i == 4 {
				s.Kept = n
			}
			hold(t, s)
			if Right(s) || len(Put(s)) != 0 {
				t.Errorf("field %d of %d: %v", i, n, s)
			}
		}
	}
	for _, n := range []int{4097, 65535, 65536, 65537, 1 << 16 * 5, 1<<32 + 5, 1 << 48} {
		for i := range 3 {
			s := plain()
			*[]*int{&s.Place, &s.Parts, &s.Kept}[i] = n
			hold(t, s)
			if Right(s) {
				t.Errorf("field %d of %d: %v", i, n, s)
			}
		}
	}
	for _, many := range []int{52, 64, 255, 256, 257, 306, 65537, 1 << 20} {
		s := plain()
		s.Body = make([]byte, many)
		hold(t, s)
		if Right(s) {
			t.Errorf("a Body of %d", many)
		}
	}
}

// P16.1 (P1), P16.2 (there and back): all numbers of each field, and some beyond; Bodies of all lengths, of all kinds of bytes.
func TestAllNumbers(t *testing.T) {
	s := plain()
	for n := -10; n < 5000; n++ {
		for i, field := range []*int{&s.Place, &s.Parts, &s.Kept} {
			was := *field
			*field = n
			hold(t, s)
			if least, greatest := []int{0, 1, 0}[i], []int{4096, 32, 1000}[i]; Right(s) != (n >= least && n <= greatest) {
				t.Fatalf("field %d of %d: %v", i, n, Right(s))
			}
			*field = was
		}
	}
	for _, gen := range gens() {
		s.Gen = gen
		hold(t, s)
		if !Right(s) {
			t.Errorf("a Gen of %d", gen)
		}
	}
	for many := range 130 {
		for _, x := range []byte{0, 1, 127, 128, 255} {
			s.Body = bytes.Repeat([]byte{x}, many)
			hold(t, s)
		}
	}
	for x := range 256 {
		s.Body = []byte{byte(x), 0, byte(x)}
		hold(t, s)
	}
}

// P16.2 (there and back): right sectors that are drawn.
func TestThereAndBack(t *testing.T) {
	from := uint64(1)
	for range 20000 {
		s := drawn(&from)
		b := Put(s)
		if back, is := Get(b); len(b) != 64 || !is || !alike(back, s) || !Right(back) {
			t.Fatalf("%v: %v, %v, %v", s, b, back, is)
		}
		hold(t, s)
		holdGet(t, b)
	}
}

// P16.1 (P1): bytes of every length, from none on: of noughts, of a right sector's, with noughts or others behind.
func TestLengths(t *testing.T) {
	from := uint64(2)
	holdGet(t, nil)
	for range 50 {
		long := append(Put(drawn(&from)), make([]byte, 136)...)
		if draw(&from, 2) == 0 {
			copy(long[64:], bytesOf(&from, 136))
		}
		for many := range len(long) {
			for _, b := range [][]byte{long[:many], long[:many:many], long[len(long)-many:], make([]byte, many), bytes.Repeat([]byte{1}, many)} {
				if holdGet(t, b); many != 64 {
					if s, is := Get(b); is || !alike(s, api.Sector{}) {
						t.Fatalf("%d bytes: %v, %v", many, s, is)
					}
				}
			}
			if got := holdGet(t, long[:many]); got != (many == 64) {
				t.Fatalf("%d bytes of a sector's: %v", many, got)
			}
		}
	}
	for _, many := range []int{128, 320, 65536 + 64, 1<<20 + 64} {
		b := make([]byte, many)
		copy(b, Put(plain()))
		if holdGet(t, b) {
			t.Errorf("%d bytes: a sector", many)
		}
	}
}

// P16.1 (P1), P16.2 (its alone): one byte changed, each of them, to each other value: what is got then is another sector, or none.
func TestOneByteChanged(t *testing.T) {
	from := uint64(3)
	list := []api.Sector{plain(), {Gen: 1, Parts: 1, Body: []byte{0}}, {Gen: 1 << 48, Place: 4096, Parts: 32, Kept: 1000, Body: make([]byte, 50)}, {Gen: 7, Place: 5, Parts: 2, Kept: 3, Body: make([]byte, 49)}}
	for range 12 {
		list = append(list, drawn(&from))
	}
	for _, s := range list {
		b := Put(s)
		for at := range b {
			was := b[at]
			for x := range 256 {
				b[at] = byte(x)
				is := holdGet(t, b)
				got, _ := Get(b)
				if is && alike(got, s) != (byte(x) == was) {
					t.Fatalf("%v, byte %d is %d: got again", s, at, x)
				}
				if behind := at >= 14+len(s.Body); behind && is != (x == 0) {
					t.Fatalf("%v, byte %d behind Body is %d: %v", s, at, x, is)
				}
				if in := at >= 14 && at < 14+len(s.Body); in && !is {
					t.Fatalf("%v, byte %d in Body is %d: none", s, at, x)
				}
			}
			b[at] = was
		}
	}
}

// P16.1 (P1): how many bytes Body has is told as less than stand there: then others than noughts are behind; as more: then noughts are Body's.
func TestOtherLengthsOfBody(t *testing.T) {
	for many := 1; many <= 50; many++ {
		s := plain()
		s.Body = bytes.Repeat([]byte{9}, many)
		b := Put(s)
		for told := range 256 {
			b[13] = byte(told)
			if is := holdGet(t, b); is != (told >= many && told <= 50) {
				t.Fatalf("%d bytes, told as %d: %v", many, told, is)
			}
			if got, is := Get(b); is && (len(got.Body) != told || !bytes.Equal(got.Body[:many], s.Body)) {
				t.Fatalf("%d bytes, told as %d: %v", many, told, got.Body)
			}
		}
	}
}

// P16.1 (P1): bytes whose numbers are out of bounds: all that there are of Place, Parts and Kept, and Gens of all kinds.
func TestNumbersOutOfBounds(t *testing.T) {
	b := Put(plain())
	for n := range 65536 {
		x := slices.Clone(b)
		copy(x[8:], inBytes(int64(n), 2))
		if holdGet(t, x) != (n <= 4096) {
			t.Fatalf("a Place of %d", n)
		}
		x = slices.Clone(b)
		copy(x[11:], inBytes(int64(n), 2))
		if holdGet(t, x) != (n <= 1000) {
			t.Fatalf("Kept of %d", n)
		}
	}
	for n := range 256 {
		x := slices.Clone(b)
		x[10] = byte(n)
		if holdGet(t, x) != (n >= 1 && n <= 32) {
			t.Fatalf("Parts of %d", n)
		}
	}
	for _, gen := range []uint64{0, 1<<48 + 1, 1<<48 + 5, 1 << 49, 1 << 56, 1<<56 + 5, 1<<63 - 1, 1 << 63, 1<<63 + 5, 1<<64 - 5, 1<<64 - 1} {
		x := slices.Clone(b)
		copy(x, new(big.Int).SetUint64(gen).FillBytes(make([]byte, 8)))
		if holdGet(t, x) {
			t.Errorf("a Gen of %d", gen)
		}
	}
	for _, gen := range gens() {
		x := slices.Clone(b)
		copy(x, inBytes(gen, 8))
		if !holdGet(t, x) {
			t.Errorf("no Gen of %d", gen)
		}
	}
}

// P16.3 (noughts): noughts are no sector, of whatever length, nor are they with one byte, or one bit, that is none.
func TestNoughts(t *testing.T) {
	for many := range 200 {
		if holdGet(t, make([]byte, many)) {
			t.Errorf("%d noughts: a sector", many)
		}
	}
	for at := range 64 {
		for x := 1; x < 256; x++ {
			b := make([]byte, 64)
			b[at] = byte(x)
			if holdGet(t, b) {
				t.Errorf("noughts, but byte %d, which is %d: a sector", at, x)
			}
		}
	}
	for _, x := range []byte{1, 2, 32, 50, 127, 128, 255} {
		if holdGet(t, bytes.Repeat([]byte{x}, 64)) {
			t.Errorf("only %d: a sector", x)
		}
	}
}

// P16.2 (there and back): what is got of any bytes has these bytes: bytes that are drawn, near enough to right ones.
func TestBackAndThere(t *testing.T) {
	from := uint64(4)
	whole := 0
	for range 50000 {
		b := Put(drawn(&from))
		for range draw(&from, 4) {
			b[draw(&from, 64)] = byte(draw(&from, 256) >> draw(&from, 8))
		}
		if holdGet(t, b) {
			s, _ := Get(b)
			if !bytes.Equal(Put(s), b) {
				t.Fatalf("Get(%v), put: %v", b, Put(s))
			}
			whole++
		}
		holdGet(t, bytesOf(&from, 64))
	}
	if whole < 10000 || whole > 45000 {
		t.Errorf("%d were sectors", whole)
	}
}

// P16.2 (these are its alone): unlike sectors have unlike bytes, those among them whose Bodies differ by noughts at an end.
func TestUnlike(t *testing.T) {
	seen := map[string]api.Sector{}
	meet := func(s api.Sector) {
		b := string(Put(s))
		if other, is := seen[b]; is && !alike(other, s) || len(b) != 64 {
			t.Fatalf("%v: %v, as %v", s, []byte(b), other)
		}
		seen[b] = s
	}
	bodies := [][]byte{{0}, {0, 0}, {0, 0, 0}, {1}, {1, 0}, {0, 1}, {1, 0, 0}, {0, 1, 0}, {1, 1}, {2}, make([]byte, 49), make([]byte, 50), bytes.Repeat([]byte{1}, 50)}
	met := 0
	for _, gen := range gens() {
		for _, place := range []int{0, 1, 2, 255, 256, 257, 4096} {
			for _, parts := range []int{1, 2, 32} {
				for _, kept := range []int{0, 1, 255, 256, 1000} {
					for _, body := range bodies {
						meet(api.Sector{Gen: gen, Place: place, Parts: parts, Kept: kept, Body: body})
						met++
					}
				}
			}
		}
	}
	if len(seen) != met {
		t.Errorf("%d sectors, %d bytes", met, len(seen))
	}
}

// P16.1 (P1): sectors of unlike generations have bytes in the order of these, whatever else stands there.
func TestOrderOfGenerations(t *testing.T) {
	from := uint64(5)
	with := func(gen int64) []byte {
		s := drawn(&from)
		s.Gen = gen
		return Put(s)
	}
	all := gens()
	for range 5 {
		for i, a := range all {
			for _, b := range all[i+1:] {
				if x, y := with(a), with(b); bytes.Compare(x, y) >= 0 || bytes.Compare(y, x) <= 0 {
					t.Fatalf("%d and %d: %v, %v", a, b, x, y)
				}
			}
		}
	}
	for gen := int64(1); gen < 70000; gen++ {
		if x, y := with(gen), with(gen+1); bytes.Compare(x, y) >= 0 {
			t.Fatalf("%d and %d: %v, %v", gen, gen+1, x, y)
		}
	}
}

// P16.1 (P1): sectors of one generation have bytes in the order of their places, whatever else stands there.
func TestOrderOfPlaces(t *testing.T) {
	from := uint64(6)
	with := func(gen int64, place int) []byte {
		s := drawn(&from)
		s.Gen, s.Place = gen, place
		return Put(s)
	}
	for _, gen := range []int64{1, 255, 256, 0x010203040506, 1 << 48} {
		for place := range 4096 {
			if x, y := with(gen, place), with(gen, place+1); bytes.Compare(x, y) >= 0 {
				t.Fatalf("%d and %d of %d: %v, %v", place, place+1, gen, x, y)
			}
			other := draw(&from, 4097)
			if x, y := with(gen, place), with(gen, other); place != other && (bytes.Compare(x, y) < 0) != (place < other) {
				t.Fatalf("%d and %d of %d: %v, %v", place, other, gen, x, y)
			}
		}
	}
}

// spoil puts another byte everywhere, into spare room too.
func spoil(b []byte, with byte) {
	for i := range b[:cap(b)] {
		b[:cap(b)][i] = with
	}
}

// P3: Right and Put leave Body, and its spare room, as they were, and keep none of it; what comes out is new memory, as often as it is asked for.
func TestKeepsBody(t *testing.T) {
	for _, many := range []int{0, 1, 4, 49, 50, 51} {
		room := make([]byte, many+70)
		for i := range room {
			room[i] = byte(i + 1)
		}
		was := slices.Clone(room)
		s := plain()
		s.Body = room[:many]
		first, again := Put(s), Put(s)
		want := modelPut(s)
		Right(s)
		if !bytes.Equal(room, was) || len(s.Body) != many {
			t.Fatalf("a Body of %d: %v, not %v", many, room, was)
		}
		spoil(first, 99)
		if !bytes.Equal(room, was) || !bytes.Equal(again, want) || !bytes.Equal(Put(s), want) {
			t.Fatalf("a Body of %d: an answer shares its memory", many)
		}
		spoil(room, 77)
		if !bytes.Equal(again, want) {
			t.Fatalf("a Body of %d: an answer shares the memory of its sector", many)
		}
		hold(t, s)
	}
}

// P3: Get leaves bytes, and their spare room, as they were, and keeps none of them; the Body that comes out is new memory, as often as it is asked for.
func TestKeepsBytes(t *testing.T) {
	for _, many := range []int{1, 4, 49, 50} {
		s := plain()
		s.Body = bytes.Repeat([]byte{5}, many)
		room := append(Put(s), bytes.Repeat([]byte{6}, 70)...)
		was := slices.Clone(room)
		b := room[:64]
		first, _ := Get(b)
		again, is := Get(b)
		if !bytes.Equal(room, was) || !is {
			t.Fatalf("a Body of %d: %v, not %v", many, room, was)
		}
		spoil(first.Body, 99)
		if third, _ := Get(b); !bytes.Equal(room, was) || !alike(again, s) || !alike(third, s) {
			t.Fatalf("a Body of %d: an answer shares its memory", many)
		}
		spoil(room, 3)
		if !alike(again, s) {
			t.Fatalf("a Body of %d: an answer shares the memory of its bytes", many)
		}
		holdGet(t, b)
	}
	for _, b := range [][]byte{make([]byte, 64), make([]byte, 63), bytes.Repeat([]byte{255}, 64), make([]byte, 65)} {
		was := slices.Clone(b)
		if Get(b); !bytes.Equal(b, was) {
			t.Errorf("%v, not %v", b, was)
		}
	}
}

// P1, P3: the same answer again, whatever was asked in between, and whoever asks beside.
func TestSameAgain(t *testing.T) {
	from := uint64(7)
	var list []api.Sector
	for range 50 {
		list = append(list, drawn(&from))
	}
	done := make(chan bool)
	for k := range 4 {
		go func() {
			ok := true
			for i := range 500 {
				s := list[(i*7+k)%50]
				b := Put(s)
				Put(api.Sector{Gen: 1, Parts: 1, Body: bytes.Repeat([]byte{255}, 50)})
				Get(make([]byte, 64))
				Get(bytes.Repeat([]byte{1}, 64))
				back, is := Get(b)
				ok = ok && is && alike(back, s) && bytes.Equal(b, modelPut(s)) && Right(s)
			}
			done <- ok
		}()
	}
	for range 4 {
		if !<-done {
			t.Error("an answer hangs on others")
		}
	}
}
