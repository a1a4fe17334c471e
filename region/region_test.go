package region

import (
	"bytes"
	"math"
	"math/big"
	"slices"
	"strconv"
	"strings"
	"testing"

	"symbolon/api"
	"symbolon/disk"
)

// draw is a number below n, and what the next one is drawn from.
func draw(from *uint64, n int) int {
	*from = *from*6364136223846793005 + 1442695040888963407
	return int(*from >> 33 % uint64(n))
}

// of is so many bytes, which differ from those of other numbers at each place.
func of(n, many int) []byte {
	b := make([]byte, many)
	for i := range b {
		b[i] = byte(n + 3*i + i/50 + 1)
	}
	return b
}

// entries are so many, each of that many bytes; they differ.
func entries(many, long int) [][]byte {
	list := make([][]byte, many)
	for i := range list {
		list[i] = of(7*i+i/256+11, long)
	}
	return list
}

// gens are generations that may be, and such as may not, among them those that may if bits are cut off.
func gens() []int64 {
	return []int64{1, 2, 255, 256, 1<<32 - 1, 1 << 32, 1<<48 - 1, 1 << 48,
		0, -1, -2, -1 << 48, 1<<48 + 1, 1<<48 + 2, 1 << 49, 1<<56 + 1, 1<<63 - 1, -1 << 63, -1<<63 + 1}
}

// laid is a sector's bytes, by chapter 16, in numbers without a bound.
func laid(s api.Sector) []byte {
	var b []byte
	for _, f := range []struct {
		n    int64
		wide int
	}{{s.Gen, 8}, {int64(s.Place), 2}, {int64(s.Parts), 1}, {int64(s.Kept), 2}, {int64(len(s.Body)), 1}} {
		b = append(b, big.NewInt(f.n).FillBytes(make([]byte, f.wide))...)
	}
	b = append(b, s.Body...)
	return append(b, make([]byte, 64-len(b))...)
}

// got is the right sector of a disk's sector, if it can be read and is one.
func got(d *disk.Disk, i int) (api.Sector, bool) {
	b, e := d.Read(i)
	if e != api.OK {
		return api.Sector{}, false
	}
	number := func(from, to int) int { return int(new(big.Int).SetBytes(b[from:to]).Int64()) }
	s := api.Sector{Gen: int64(number(0, 8)), Place: number(8, 10), Parts: number(10, 11), Kept: number(11, 13)}
	many := number(13, 14)
	if s.Gen < 1 || s.Gen > 1<<48 || s.Place > 4096 || s.Parts < 1 || s.Parts > 32 || s.Kept > 1000 || many < 1 || many > 50 {
		return api.Sector{}, false
	}
	s.Body = b[14 : 14+many]
	return s, bytes.Equal(laid(s), b)
}

// spot is what stands at a place of a region, if a sector does.
type spot struct {
	api.Sector
	is bool
}

// spots are all of a region, in order.
func spots(d *disk.Disk, from, size int) []spot {
	list := make([]spot, size)
	for place := range list {
		list[place].Sector, list[place].is = got(d, from+place)
	}
	return list
}

// modelRead is Q1's Read, written out: all that stands there is held against what should.
func modelRead(d *disk.Disk, from, size int) (api.Region, bool) {
	list := spots(d, from, size)
	if size == 0 || !list[0].is || list[0].Place != 0 || list[0].Parts+list[0].Kept > size {
		return api.Region{}, false
	}
	gen, parts, kept := list[0].Gen, list[0].Parts, list[0].Kept
	right := func(place int) bool {
		s := list[place]
		return s.is && s.Place == place && s.Gen == gen && s.Parts == parts && s.Kept == kept
	}
	for place := range parts + kept {
		if !right(place) || place+1 < parts && len(list[place].Body) != 50 {
			return api.Region{}, false
		}
	}
	r := api.Region{Gen: gen}
	for _, s := range list[:parts] {
		r.State = append(r.State, s.Body...)
	}
	for _, s := range list[parts : parts+kept] {
		r.Kept = append(r.Kept, s.Body)
	}
	for place := parts + kept; place < size && right(place); place++ {
		r.More = append(r.More, list[place].Body)
	}
	return r, true
}

// modelGreatest is Q1's Greatest, written out: all generations, sorted.
func modelGreatest(d *disk.Disk, from, size int) int64 {
	all := []int64{0}
	for _, s := range spots(d, from, size) {
		if s.is {
			all = append(all, s.Gen)
		}
	}
	slices.Sort(all)
	return all[len(all)-1]
}

// pieces are a state's, of 50 bytes each, the last one of what is left.
func pieces(state []byte) [][]byte {
	var list [][]byte
	for i, x := range state {
		if i%50 == 0 {
			list = append(list, nil)
		}
		list[len(list)-1] = append(list[len(list)-1], x)
	}
	return list
}

// noEntry tells whether bytes are none.
func noEntry(b []byte) bool { return len(b) == 0 || len(b) > 50 }

// mayNot tells whether a generation, a state or a number of kept ones may not be.
func mayNot(gen int64, state []byte, kept int) bool {
	return gen <= 0 || gen > 281474976710656 || len(state) == 0 || len(state) >= 1601 || kept >= 1001
}

// modelLay is Q2, written out.
func modelLay(d *disk.Disk, from, size int, gen int64, state []byte, kept [][]byte) api.Errno {
	if mayNot(gen, state, len(kept)) {
		return 1
	}
	for _, b := range kept {
		if noEntry(b) {
			return 1
		}
	}
	list := pieces(state)
	parts := len(list)
	if list = append(list, kept...); len(list) > size {
		return 5
	}
	for place, body := range list {
		if e := d.Write(from+place, laid(api.Sector{Gen: gen, Place: place, Parts: parts, Kept: len(kept), Body: body})); e != 0 {
			return e
		}
	}
	return 0
}

// modelPut is Q3, written out.
func modelPut(d *disk.Disk, from, size int, r api.Region, entry []byte) api.Errno {
	if noEntry(entry) || mayNot(r.Gen, r.State, len(r.Kept)) {
		return 1
	}
	parts := len(pieces(r.State))
	place := parts + len(r.Kept) + len(r.More)
	if place >= size {
		return 5
	}
	return d.Write(from+place, laid(api.Sector{Gen: r.Gen, Place: place, Parts: parts, Kept: len(r.Kept), Body: entry}))
}

// lists tells whether two lists are alike.
func lists(a, b [][]byte) bool { return slices.EqualFunc(a, b, bytes.Equal) }

// alike tells whether two regions are.
func alike(a, b api.Region) bool {
	return a.Gen == b.Gen && bytes.Equal(a.State, b.State) && lists(a.Kept, b.Kept) && lists(a.More, b.More)
}

// deep is a copy of a region, which shares nothing with it.
func deep(r api.Region) api.Region {
	copied := func(list [][]byte) [][]byte {
		var out [][]byte
		for _, b := range list {
			out = append(out, slices.Clone(b))
		}
		return out
	}
	return api.Region{Gen: r.Gen, State: slices.Clone(r.State), Kept: copied(r.Kept), More: copied(r.More)}
}

// told is a region in short.
func told(r api.Region, is bool) string {
	return strconv.FormatBool(is) + " gen " + strconv.FormatInt(r.Gen, 10) + " state " + strconv.Itoa(len(r.State)) + " kept " + strconv.Itoa(len(r.Kept)) + " more " + strconv.Itoa(len(r.More))
}

// holdRead holds what a region is said to hold, and the greatest generation there, against Q1.
func holdRead(t *testing.T, d *disk.Disk, from, size int, when string) {
	t.Helper()
	r, is := Read(d, from, size)
	want, wantIs := modelRead(d, from, size)
	if is != wantIs || !alike(r, want) {
		t.Fatalf("%s: Read of %d from %d: %s, not %s", when, size, from, told(r, is), told(want, wantIs))
	}
	if g, want := Greatest(d, from, size), modelGreatest(d, from, size); g != want {
		t.Fatalf("%s: Greatest of %d from %d: %d, not %d", when, size, from, g, want)
	}
}

// pair is two disks: to one is done what the package does, to the other what the chapter says.
type pair struct {
	one, other *disk.Disk
	past       []string
}

func newPair(sectors int) *pair { return &pair{one: disk.New(sectors), other: disk.New(sectors)} }

// both does a thing to both disks.
func (p *pair) both(name string, do func(d *disk.Disk)) {
	p.past = append(p.past, name)
	do(p.one)
	do(p.other)
}

// hold holds both disks, and both errors, against each other.
func (p *pair) hold(t *testing.T, got, want api.Errno) {
	t.Helper()
	when := strings.Join(p.past, "; ")
	if got != want || p.one.Pending() != p.other.Pending() {
		t.Fatalf("%s: %v and %d pending, not %v and %d", when, got, p.one.Pending(), want, p.other.Pending())
	}
	for i := range p.one.Sectors() {
		a, e := p.one.Read(i)
		b, f := p.other.Read(i)
		if e != f || !bytes.Equal(a, b) {
			t.Fatalf("%s: sector %d: %v, %v, not %v, %v", when, i, a, e, b, f)
		}
	}
}

// lay lays, and holds what is there against Q2.
func (p *pair) lay(t *testing.T, from, size int, gen int64, state []byte, kept [][]byte) api.Errno {
	t.Helper()
	p.past = append(p.past, "lay "+strconv.Itoa(size)+" from "+strconv.Itoa(from)+": "+told(api.Region{Gen: gen, State: state, Kept: kept}, true))
	e := Lay(p.one, from, size, gen, state, kept)
	p.hold(t, e, modelLay(p.other, from, size, gen, state, kept))
	return e
}

// put puts, and holds what is there against Q3.
func (p *pair) put(t *testing.T, from, size int, r api.Region, entry []byte) api.Errno {
	t.Helper()
	p.past = append(p.past, "put "+strconv.Itoa(size)+" from "+strconv.Itoa(from)+", "+strconv.Itoa(len(entry))+" bytes: "+told(r, true))
	e := Put(p.one, from, size, r, entry)
	p.hold(t, e, modelPut(p.other, from, size, r, entry))
	return e
}

// fuse has both machines stand still behind so many calls.
func (p *pair) fuse(calls int) {
	p.both("fuse "+strconv.Itoa(calls), func(d *disk.Disk) { d.Fuse(calls) })
}

// crash has both begin anew, with the same writes kept, and torn.
func (p *pair) crash(keep []bool, torn int) {
	p.both("crash, torn "+strconv.Itoa(torn), func(d *disk.Disk) { d.Crash(keep, torn) })
}

// written is a disk of so many sectors, in which bytes stand from one on.
func written(t *testing.T, sectors, from int, list ...[]byte) *disk.Disk {
	t.Helper()
	d := disk.New(sectors)
	for i, b := range list {
		if e := d.Write(from+i, b); e != 0 {
			t.Fatal(e)
		}
	}
	d.Sync()
	return d
}

// ofRegion are the bytes of all sectors of what a region holds, in order.
func ofRegion(r api.Region) [][]byte {
	bodies := pieces(r.State)
	parts := len(bodies)
	bodies = append(append(bodies, r.Kept...), r.More...)
	for place, body := range bodies {
		bodies[place] = laid(api.Sector{Gen: r.Gen, Place: place, Parts: parts, Kept: len(r.Kept), Body: body})
	}
	return bodies
}

// sample is a region of three parts, two kept ones and three more.
func sample() api.Region {
	return api.Region{Gen: 7, State: of(1, 120), Kept: entries(2, 50), More: entries(3, 9)}
}

// P17.1: the example of the chapter first (a state of 51 bytes has two parts), then others that are known, byte by byte.
func TestKnown(t *testing.T) {
	d := disk.New(8)
	if e := Lay(d, 2, 5, 258, of(0, 51), [][]byte{[]byte("ab")}); e != 0 || d.Pending() != 3 {
		t.Fatalf("Lay: %v, %d pending", e, d.Pending())
	}
	head := func(place, many byte) []byte { return []byte{0, 0, 0, 0, 0, 0, 1, 2, 0, place, 2, 0, 1, many} }
	for i, want := range [][]byte{nil, nil, append(head(0, 50), of(0, 50)...), append(head(1, 1), of(0, 51)[50]), append(head(2, 2), 'a', 'b'), nil, nil, nil} {
		want = append(want, make([]byte, 64-len(want))...)
		if b, e := d.Read(i); e != 0 || !bytes.Equal(b, want) {
			t.Errorf("sector %d: %v, %v, not %v", i, b, e, want)
		}
	}
	r, is := Read(d, 2, 5)
	if !is || r.Gen != 258 || !bytes.Equal(r.State, of(0, 51)) || len(r.Kept) != 1 || string(r.Kept[0]) != "ab" || len(r.More) != 0 {
		t.Errorf("Read: %v, %v", r, is)
	}
	if e := Put(d, 2, 5, r, []byte("c")); e != 0 {
		t.Errorf("Put: %v", e)
	}
	if b, _ := d.Read(5); !bytes.HasPrefix(b, append(head(3, 1), 'c', 0)) {
		t.Errorf("put: %v", b)
	}
	if r, is = Read(d, 2, 5); !is || len(r.Kept) != 1 || len(r.More) != 1 || string(r.More[0]) != "c" {
		t.Errorf("Read: %v, %v", r, is)
	}
	if e := Put(d, 2, 5, r, []byte("d")); e != 0 {
		t.Errorf("Put: %v", e)
	}
	r, _ = Read(d, 2, 5)
	if e := Put(d, 2, 5, r, []byte("e")); e != api.ErrFull || len(r.More) != 2 {
		t.Errorf("Put beyond: %v", e)
	}
	if a, b, c := Greatest(d, 0, 8), Greatest(d, 0, 2), Greatest(d, 7, 1); a != 258 || b != 0 || c != 0 {
		t.Errorf("Greatest: %d, %d, %d", a, b, c)
	}
	if a, b := Lay(d, 0, 8, 0, []byte("s"), nil), Lay(d, 0, 8, 1, nil, nil); a != api.ErrArg || b != api.ErrArg {
		t.Errorf("Lay: %v, %v", a, b)
	}
}

// P17.1, P17.2: states of each length, with no kept, one, some, and as many as there is room for, of entries of 1 and 50 bytes; then entries are put behind, one by one, until there is no room.
func TestThereAndBack(t *testing.T) {
	for long := 1; long <= 1600; long++ {
		parts := (long + 49) / 50
		most := 5
		if long <= 2 || long%50 <= 1 || long%50 == 49 {
			most = 40
		}
		for _, many := range []int{0, 1, 3, most} {
			size := parts + most
			for _, wide := range []int{1, 50} {
				thereAndBack(t, size+9, 4, size, api.Region{Gen: int64(1 + long%7), State: of(long, long), Kept: entries(many, wide)}, wide)
			}
		}
	}
}

// thereAndBack lays what a region should hold, and puts entries of that many bytes behind until there is no room; it holds each step.
func thereAndBack(t *testing.T, sectors, from, size int, r api.Region, wide int) {
	t.Helper()
	d := disk.New(sectors)
	if e := Lay(d, from, size, r.Gen, r.State, r.Kept); e != 0 {
		t.Fatalf("Lay %s: %v", told(r, true), e)
	}
	writes := len(pieces(r.State)) + len(r.Kept)
	for n := 0; ; n++ {
		back, is := Read(d, from, size)
		if !is || !alike(back, r) {
			t.Fatalf("Read: %s, not %s", told(back, is), told(r, true))
		}
		if d.Pending() != writes || Greatest(d, from, size) != r.Gen {
			t.Fatalf("%s: %d pending, greatest %d", told(r, true), d.Pending(), Greatest(d, from, size))
		}
		e := Put(d, from, size, r, of(n, wide))
		if (e == api.OK) != (writes < size) || e != api.OK && e != api.ErrFull {
			t.Fatalf("Put %s: %v", told(r, true), e)
		}
		if e != api.OK {
			break
		}
		r.More = append(r.More, of(n, wide))
		writes++
	}
	if d.Sync() != 0 {
		t.Fatal("Sync")
	}
	d.Crash(nil, 0)
	if back, is := Read(d, from, size); !is || !alike(back, r) || d.Pending() != 0 {
		t.Fatalf("synced: %s, not %s", told(back, is), told(r, true))
	}
}

// P17.1, P17.2: the greatest region there is, with 1000 kept ones and all behind it that there is room for, and small ones, of all generations that may be.
func TestGreat(t *testing.T) {
	for _, long := range []int{1, 1600} {
		for _, many := range []int{0, 1000} {
			d := disk.New(4096)
			r := api.Region{Gen: 1 << 48, State: of(3, long), Kept: entries(many, 50)}
			if e := Lay(d, 0, 4096, r.Gen, r.State, r.Kept); e != 0 {
				t.Fatal(e)
			}
			for n := 0; ; n++ {
				e := Put(d, 0, 4096, r, of(n, 1+n%50))
				if e == api.ErrFull {
					break
				}
				if e != 0 {
					t.Fatalf("Put %d: %v", n, e)
				}
				r.More = append(r.More, of(n, 1+n%50))
			}
			if len(pieces(r.State))+len(r.Kept)+len(r.More) != 4096 {
				t.Fatal(told(r, true))
			}
			d.Sync()
			holdRead(t, d, 0, 4096, told(r, true))
			if back, is := Read(d, 0, 4096); !is || !alike(back, r) {
				t.Fatalf("Read: %s, not %s", told(back, is), told(r, true))
			}
		}
	}
	for _, gen := range gens() {
		if gen >= 1 && gen <= 1<<48 {
			thereAndBack(t, 12, 2, 6, api.Region{Gen: gen, State: of(1, 51), Kept: entries(1, 3)}, 2)
		}
	}
}

// P17.1 (Q2): ErrArg and ErrFull of Lay, by each thing that may be wrong, and by all of them together: ErrArg is told first, and nothing is written.
func TestLayErrors(t *testing.T) {
	kepts := [][][]byte{nil, {}, entries(1, 1), entries(1, 50), entries(3, 2), entries(999, 1), entries(1000, 50), entries(1001, 1), make([][]byte, 1000), make([][]byte, 1001), {nil}, {{}}, entries(1, 51), entries(1, 300)}
	for _, wrong := range []int{0, 51, 52, 306} {
		for at := range 3 {
			list := entries(3, 5)
			list[at] = make([]byte, wrong)
			kepts = append(kepts, list)
		}
	}
	last := entries(1000, 4)
	last[999] = nil
	kepts = append(kepts, last)
	for _, gen := range gens() {
		for _, long := range []int{0, 1, 50, 51, 100, 1599, 1600, 1601, 1650, 1 << 16} {
			for _, kept := range kepts {
				p := newPair(3)
				whole := (long+49)/50 + len(kept)
				for _, size := range []int{0, 1, whole - 1, whole, whole + 1, 4096} {
					p.fuse(2)
					p.lay(t, 0, max(size, 0), gen, of(1, long), kept)
				}
			}
		}
	}
	p := newPair(3)
	for _, state := range [][]byte{nil, {}, make([]byte, 5)[:0]} {
		if e := p.lay(t, 0, 3, 1, state, nil); e != api.ErrArg {
			t.Errorf("no state: %v", e)
		}
	}
	if e := p.lay(t, 0, 2, 0, of(1, 200), entries(1, 1)); e != api.ErrArg {
		t.Errorf("ErrArg and ErrFull: %v", e)
	}
	if e := p.lay(t, 0, 3, 1, of(1, 100), entries(2, 1)); e != api.ErrFull {
		t.Errorf("one more than size: %v", e)
	}
	if e := p.lay(t, 0, 3, 1, of(1, 151), nil); e != api.ErrFull {
		t.Errorf("one part more than size: %v", e)
	}
	p.fuse(0)
	if a, b, c := p.lay(t, 0, 3, 0, of(1, 1), nil), p.lay(t, 9, 3, 1, of(1, 151), nil), p.lay(t, 9, 3, 1, of(1, 1), nil); a != 1 || b != 5 || c != 42 {
		t.Errorf("dead: %v, %v, %v", a, b, c)
	}
}

// P17.1 (Q3): ErrArg and ErrFull of Put, by each thing that may be wrong, and by all of them together: ErrArg is told first, and nothing is written.
func TestPutErrors(t *testing.T) {
	for _, gen := range gens() {
		for _, long := range []int{0, 1, 50, 51, 100, 1600, 1601, 1 << 16} {
			for _, kept := range []int{0, 1, 3, 1000, 1001} {
				for _, more := range []int{0, 1, 2} {
					r := api.Region{Gen: gen, State: of(1, long), Kept: entries(kept, 1), More: entries(more, 1)}
					holdPuts(t, r)
				}
			}
		}
	}
	p := newPair(3)
	for _, entry := range [][]byte{nil, {}, make([]byte, 51)} {
		if e := p.put(t, 0, 3, api.Region{Gen: 1, State: of(1, 1)}, entry); e != api.ErrArg {
			t.Errorf("%d bytes: %v", len(entry), e)
		}
		if e := p.put(t, 0, 1, api.Region{Gen: 1, State: of(1, 1)}, entry); e != api.ErrArg {
			t.Errorf("%d bytes and no room: %v", len(entry), e)
		}
	}
	if e := p.put(t, 0, 3, api.Region{}, of(1, 1)); e != api.ErrArg {
		t.Errorf("a zero region: %v", e)
	}
	if e := p.put(t, 0, 3, api.Region{State: of(1, 1), More: entries(9, 1)}, of(1, 1)); e != api.ErrArg {
		t.Errorf("no Gen and no room: %v", e)
	}
	if e := p.put(t, 0, 3, api.Region{Gen: 1, State: of(1, 101), More: nil}, of(1, 1)); e != api.ErrFull {
		t.Errorf("no room: %v", e)
	}
	p.fuse(0)
	r := api.Region{Gen: 1, State: of(1, 1)}
	if a, b, c := p.put(t, 0, 3, r, nil), p.put(t, 9, 1, r, of(1, 1)), p.put(t, 9, 3, r, of(1, 1)); a != 1 || b != 5 || c != 42 {
		t.Errorf("dead: %v, %v, %v", a, b, c)
	}
}

// holdPuts puts entries of several lengths behind a region, where there is room and where there is none.
func holdPuts(t *testing.T, r api.Region) {
	t.Helper()
	whole := len(pieces(r.State)) + len(r.Kept) + len(r.More)
	p := newPair(3)
	for _, wide := range []int{0, 1, 50, 51, 256 + 5} {
		for _, size := range []int{0, 1, whole - 1, whole, whole + 1, 4096} {
			for _, from := range []int{0, 4096} {
				p.fuse(1)
				p.put(t, from, max(size, 0), r, of(2, wide))
			}
		}
	}
}

// P17.1 (Q3): what a region is said to hold need not be there, nor be entries: Put asks how many there are alone.
func TestPutWhatever(t *testing.T) {
	for _, r := range []api.Region{
		{Gen: 3, State: of(1, 50), Kept: [][]byte{nil, make([]byte, 51)}},
		{Gen: 3, State: of(1, 51), Kept: [][]byte{nil}, More: [][]byte{make([]byte, 99), {}}},
		{Gen: 3, State: of(1, 1), More: make([][]byte, 5)},
		{Gen: 3, State: of(1, 1), More: make([][]byte, 6)},
		{Gen: 3, State: of(1, 1), Kept: make([][]byte, 1000), More: make([][]byte, 70000)},
	} {
		p := newPair(8)
		p.put(t, 1, 6, r, of(1, 5))
		p.put(t, 1, 7, r, of(1, 5))
		p.put(t, 0, 8, r, of(1, 5))
	}
	p := newPair(4096)
	for _, kept := range []int{0, 1, 255, 256, 999, 1000} {
		for _, more := range []int{0, 1, 255, 256, 3000} {
			p.put(t, 0, 4096, api.Region{Gen: 1 << 48, State: of(1, 1600), Kept: make([][]byte, kept), More: make([][]byte, more)}, of(1, 50))
		}
	}
}

// P17.1 (Q2, Q3): the disk's errors: sectors that are not there end it where they begin; a fuse that runs out ends it there; what was written ahead is pending.
func TestDiskErrors(t *testing.T) {
	for sectors := range 8 {
		for from := range 10 {
			for long := 50; long <= 150; long += 50 {
				for kept := range 4 {
					for _, calls := range []int{-1, 0, 1, 2, 3, 4, 5, 6, 7} {
						holdDiskErrors(t, sectors, from, calls, api.Region{Gen: 5, State: of(1, long), Kept: entries(kept, 4)})
					}
				}
			}
		}
	}
	p := newPair(7)
	p.fuse(2)
	if e := p.lay(t, 0, 7, 1, of(1, 101), entries(2, 1)); e != api.ErrDead || p.one.Pending() != 2 {
		t.Errorf("dead in the midst: %v, %d pending", e, p.one.Pending())
	}
	if e := p.one.Write(0, make([]byte, 64)); e != api.ErrDead {
		t.Errorf("dead: %v", e)
	}
	if e := Lay(disk.New(3), 1, 4096, 1, of(1, 101), nil); e != api.ErrNone {
		t.Errorf("beyond the disk: %v", e)
	}
}

// holdDiskErrors lays a region and puts an entry behind, with so many calls until the machine stands still, and looks which of these are left.
func holdDiskErrors(t *testing.T, sectors, from, calls int, r api.Region) {
	t.Helper()
	size := len(pieces(r.State)) + len(r.Kept) + 2
	p := newPair(sectors)
	p.fuse(calls)
	first := p.lay(t, from, size, r.Gen, r.State, r.Kept)
	holdRead(t, p.one, from, size, strings.Join(p.past, "; "))
	then := p.put(t, from, size, r, of(9, 9))
	if calls >= 0 && first == api.ErrDead && then != api.ErrDead {
		t.Fatalf("%s: %v, then %v", strings.Join(p.past, "; "), first, then)
	}
	for range 9 {
		p.hold(t, p.one.Write(0, make([]byte, 64)), p.other.Write(0, make([]byte, 64)))
	}
	p.crash([]bool{true, true, false, true, true, true}, 3)
	p.hold(t, 0, 0)
	holdRead(t, p.one, from, size, strings.Join(p.past, "; "))
}

// P17.1 (Q2): place by place, from 0 on: of a crash that keeps only the first writes these are the first places, and each write that is torn is of its place.
func TestInOrder(t *testing.T) {
	r := sample()
	for first := range 9 {
		for torn := -1; torn < 9; torn++ {
			p := newPair(12)
			p.lay(t, 2, 9, r.Gen, r.State, r.Kept)
			for n, b := range r.More {
				p.put(t, 2, 9, api.Region{Gen: r.Gen, State: r.State, Kept: r.Kept, More: r.More[:n]}, b)
			}
			p.crash(slices.Repeat([]bool{true}, first), torn)
			p.hold(t, 0, 0)
			for place := range 8 {
				_, e := p.one.Read(2 + place)
				s, is := got(p.one, 2+place)
				if (e == api.ErrTorn) != (place == torn) || is != (place < first && place != torn) || is && s.Place != place {
					t.Fatalf("%d kept, %d torn: place %d: %v, %v", first, torn, place, s, e)
				}
			}
			holdRead(t, p.one, 2, 9, strings.Join(p.past, "; "))
		}
	}
}

// P17.3: without one of its sectors, lost or torn, what is laid is not whole; without one that was put, those behind are not held.
func TestWholeOrNot(t *testing.T) {
	for parts := 1; parts <= 4; parts++ {
		for kept := range 4 {
			for more := range 4 {
				r := api.Region{Gen: 9, State: of(1, 50*parts-3), Kept: entries(kept, 8), More: entries(more, 3)}
				for gone := range parts + kept + more {
					for _, torn := range []bool{false, true} {
						holdWithout(t, r, parts+kept, gone, torn)
					}
				}
			}
		}
	}
	long := api.Region{Gen: 9, State: of(1, 1600), Kept: entries(100, 8), More: entries(20, 3)}
	for gone := range 152 {
		holdWithout(t, long, 132, gone, gone%2 == 0)
	}
}

// holdWithout lays a region, whose first sectors are its laid ones, and puts behind; of all its sectors one is lost, or torn.
func holdWithout(t *testing.T, r api.Region, first, gone int, torn bool) {
	t.Helper()
	size := first + len(r.More) + 2
	d := disk.New(size + 5)
	Lay(d, 3, size, r.Gen, r.State, r.Kept)
	for n, b := range r.More {
		Put(d, 3, size, api.Region{Gen: r.Gen, State: r.State, Kept: r.Kept, More: r.More[:n]}, b)
	}
	keep := slices.Repeat([]bool{true}, size)
	keep[gone] = false
	if torn {
		d.Crash(keep, gone)
	} else {
		d.Crash(keep, -1)
	}
	back, is := Read(d, 3, size)
	want := api.Region{}
	if gone >= first {
		want = r
		want.More = r.More[:gone-first]
	}
	if is != (gone >= first) || !alike(back, want) {
		t.Fatalf("%s without %d (torn: %v): %s", told(r, true), gone, torn, told(back, is))
	}
	holdRead(t, d, 3, size, told(r, true)+" without "+strconv.Itoa(gone))
}

// P17.3, P17.1 (Q1): each sector of a region is written over with one of another Gen, Place, Parts, Kept or Body, with bytes that are none, and with noughts.
func TestWrittenOver(t *testing.T) {
	r := sample()
	list := ofRegion(r)
	for place := range list {
		for n, other := range others(t, list[place]) {
			d := written(t, 12, 1, list...)
			d.Write(1+place, other)
			for size := range 12 {
				holdRead(t, d, 1, size, "place "+strconv.Itoa(place)+", other "+strconv.Itoa(n))
			}
			back, is := Read(d, 1, 10)
			if place < 5 && is || place >= 5 && (!is || len(back.More) != place-5) {
				t.Fatalf("place %d, other %d: %s", place, n, told(back, is))
			}
		}
	}
}

// others are bytes that no right sector's place may have: each number ahead of Body is another one, or they are none.
func others(t *testing.T, b []byte) [][]byte {
	t.Helper()
	s, is := got(written(t, 1, 0, b), 0)
	if !is {
		t.Fatal(b)
	}
	var list [][]byte
	for _, gen := range []int64{1, s.Gen - 1, s.Gen + 1, s.Gen + 256, s.Gen + 1<<32, 1 << 48} {
		o := s
		o.Gen = gen
		list = append(list, laid(o))
	}
	for _, place := range []int{s.Place + 1, s.Place + 8, s.Place + 256, 4096} {
		o := s
		o.Place = place
		list = append(list, laid(o))
	}
	for _, n := range []int{s.Parts - 1, s.Parts + 1, 1, 32} {
		o := s
		o.Parts = n
		list = append(list, laid(o))
	}
	for _, n := range []int{0, s.Kept - 1, s.Kept + 1, s.Kept + 256, 1000} {
		o := s
		o.Kept = n
		list = append(list, laid(o))
	}
	for at, x := range map[int]byte{2: 7, 10: 33, 10 + 1: 4, 13: 0, 12: 255, 63: 1} {
		o := slices.Clone(b)
		if o[at] = x; len(s.Body) < 50 || at < 63 {
			list = append(list, o)
		}
	}
	return append(list, make([]byte, 64), bytes.Repeat([]byte{255}, 64))
}

// P17.1 (Q1): pieces of fewer than 50 bytes, ahead of the last one, are no state; the last one, kept ones and more have any number of bytes.
func TestShortPieces(t *testing.T) {
	for _, parts := range []int{1, 2, 3, 32} {
		for place := range parts + 2 {
			for many := 1; many <= 50; many++ {
				list := ofRegion(api.Region{Gen: 4, State: of(1, 50*parts), Kept: entries(1, 50), More: entries(1, 50)})
				list[place] = laid(api.Sector{Gen: 4, Place: place, Parts: parts, Kept: 1, Body: of(2, many)})
				d := written(t, 40, 0, list...)
				back, is := Read(d, 0, 40)
				if is != (many == 50 || place >= parts-1) || is && len(back.State) != 50*(parts-1)+map[bool]int{true: many, false: 50}[place == parts-1] {
					t.Fatalf("%d parts, place %d of %d: %s", parts, place, many, told(back, is))
				}
				holdRead(t, d, 0, 40, strconv.Itoa(parts)+" parts, place "+strconv.Itoa(place)+" of "+strconv.Itoa(many))
			}
		}
	}
}

// P17.1 (Q1): More ends where no such sector stands, though some stand behind it, and at the region's end, though some stand there.
func TestMoreEnds(t *testing.T) {
	r := sample()
	r.More = entries(6, 2)
	list := ofRegion(r)
	for size := range 14 {
		d := written(t, 14, 1, list...)
		back, is := Read(d, 1, size)
		if is != (size >= 5) || is && len(back.More) != min(size-5, 6) {
			t.Errorf("size %d: %s", size, told(back, is))
		}
		holdRead(t, d, 1, size, "size "+strconv.Itoa(size))
	}
	for ends := range 6 {
		for behind := ends; behind < 6; behind++ {
			d := written(t, 14, 1, list...)
			for place := ends; place <= behind; place++ {
				d.Write(1+5+place, laid(api.Sector{Gen: 6, Place: 5 + place, Parts: 3, Kept: 2, Body: of(1, 1)}))
			}
			if back, is := Read(d, 1, 13); !is || len(back.More) != ends || !lists(back.More, r.More[:ends]) {
				t.Errorf("without %d to %d: %s", ends, behind, told(back, is))
			}
		}
	}
}

// P17.1 (Q1): a region whose Parts and Kept are as many as its size is whole, and of one less it is not, though all its sectors stand.
func TestNoRoom(t *testing.T) {
	for _, c := range []struct{ long, kept int }{{1, 0}, {50, 3}, {51, 0}, {1600, 0}, {1600, 1000}, {1, 1000}, {149, 255}, {149, 256}} {
		r := api.Region{Gen: 2, State: of(1, c.long), Kept: entries(c.kept, 1), More: entries(4, 1)}
		whole := len(pieces(r.State)) + c.kept
		d := written(t, 1100, 7, ofRegion(r)...)
		for size := max(0, whole-3); size < whole+6; size++ {
			back, is := Read(d, 7, size)
			if is != (size >= whole) || is && len(back.More) != min(size-whole, 4) {
				t.Errorf("%s in %d: %s", told(r, true), size, told(back, is))
			}
			holdRead(t, d, 7, size, told(r, true))
		}
	}
}

// P17.1 (Q1), P1: regions of no sectors, of one, beyond the disk, and in part beyond it, at all places of disks of no sectors and of some.
func TestBeyond(t *testing.T) {
	r := sample()
	list := ofRegion(r)
	for sectors := range 13 {
		for begin := range 13 {
			d := disk.New(sectors)
			for i, b := range list {
				d.Write(begin+i, b)
			}
			for from := range 15 {
				for size := range 15 {
					holdRead(t, d, from, size, strconv.Itoa(sectors)+" sectors, begun at "+strconv.Itoa(begin))
				}
			}
			for _, c := range [][2]int{{0, 4096}, {begin, 4096}, {4096, 4096}, {4095, 1}, {4096, 0}} {
				holdRead(t, d, c[0], c[1], strconv.Itoa(sectors)+" sectors, begun at "+strconv.Itoa(begin))
			}
		}
	}
	d := written(t, 4096, 4088, list...)
	for _, c := range [][2]int{{4088, 8}, {4088, 4096}, {4088, 7}, {4087, 9}, {4089, 7}, {4095, 1}, {4096, 4096}, {0, 4096}} {
		holdRead(t, d, c[0], c[1], "at the end")
	}
	if back, is := Read(d, 4088, 4096); !is || !alike(back, r) {
		t.Errorf("at the end: %s", told(back, is))
	}
}

// P17.1 (Q1): the greatest generation is 0 of an empty region, and else that of whatever sectors stand there, at whatever Place, whole or not; not of those that are torn, none, or lost.
func TestGreatest(t *testing.T) {
	for _, sectors := range []int{0, 1, 9, 4096} {
		d := disk.New(sectors)
		for _, size := range []int{0, 1, 8, 4096} {
			if g := Greatest(d, 0, size); g != 0 {
				t.Errorf("empty: %d", g)
			}
		}
	}
	one := func(gen int64, place int) []byte {
		return laid(api.Sector{Gen: gen, Place: place, Parts: 1 + place%32, Kept: place % 1001, Body: of(place, 1+place%50)})
	}
	wrong := one(1<<48, 2)
	wrong[1] = 2
	d := written(t, 9, 0, one(3, 0), one(900, 4096), one(17, 77), wrong, one(1<<48, 1), one(5, 5), make([]byte, 64), one(1, 0), one(2, 8))
	d.Write(4, one(1<<40, 4))
	d.Crash(nil, 0)
	for from := range 11 {
		for size := range 11 {
			holdRead(t, d, from, size, "some")
		}
	}
	for _, c := range []struct {
		from, size int
		want       int64
	}{{0, 9, 900}, {0, 1, 3}, {1, 1, 900}, {2, 7, 17}, {3, 2, 0}, {4, 1, 0}, {5, 4, 5}, {6, 1, 0}, {6, 2, 1}, {6, 3, 2}, {6, 4096, 2}, {9, 5, 0}, {0, 0, 0}} {
		if g := Greatest(d, c.from, c.size); g != c.want {
			t.Errorf("Greatest of %d from %d: %d, not %d", c.size, c.from, g, c.want)
		}
	}
	for _, gen := range []int64{1, 255, 256, 1<<31 - 1, 1 << 31, 1 << 32, 1<<48 - 1, 1 << 48} {
		d := written(t, 3, 0, one(1, 0), one(gen, 3), one(1, 1))
		if g := Greatest(d, 0, 3); g != gen {
			t.Errorf("%d, not %d", g, gen)
		}
	}
}

// P17.1: what stands in sectors beside a region alters nothing of what is read there, and laying and putting leave it as it was.
func TestBeside(t *testing.T) {
	r := sample()
	list := ofRegion(r)
	from := uint64(3)
	for n := range 300 {
		d := disk.New(30)
		for i := range 30 {
			d.Write(i, list[draw(&from, len(list))])
		}
		d.Sync()
		for i := range 10 {
			d.Write(10+i, make([]byte, 64))
		}
		d.Sync()
		was := make([][]byte, 30)
		for i := range was {
			was[i], _ = d.Read(i)
		}
		if _, is := Read(d, 10, 10); is || Greatest(d, 10, 10) != 0 {
			t.Fatal("an empty region is none")
		}
		Lay(d, 10, 10, r.Gen, r.State, r.Kept)
		at := r
		at.More = nil
		for ; Put(d, 10, 10, at, of(n, 4)) == api.OK; at.More = append(at.More, of(n, 4)) {
		}
		if back, is := Read(d, 10, 10); !is || !alike(back, at) || len(at.More) != 5 || Greatest(d, 10, 10) != r.Gen {
			t.Fatalf("%s, not %s", told(back, is), told(at, true))
		}
		for i := range was {
			if b, _ := d.Read(i); (i < 10 || i >= 20) && !bytes.Equal(b, was[i]) {
				t.Fatalf("sector %d: %v, not %v", i, b, was[i])
			}
		}
	}
}

// P17.1, P17.2: what is laid over what stood there, of another generation, and of the same, with fewer sectors and with more: what is left of the elder is held only if it is of the same Gen, Parts and Kept.
func TestLaidOver(t *testing.T) {
	for parts := 1; parts <= 3; parts++ {
		for kept := range 3 {
			for more := range 3 {
				for gen := range int64(2) {
					p := newPair(10)
					r := sample()
					p.lay(t, 1, 9, r.Gen, r.State, r.Kept)
					for n, b := range r.More {
						p.put(t, 1, 9, api.Region{Gen: r.Gen, State: r.State, Kept: r.Kept, More: r.More[:n]}, b)
					}
					now := api.Region{Gen: r.Gen + gen, State: of(5, 50*parts), Kept: entries(kept, 6)}
					p.lay(t, 1, 9, now.Gen, now.State, now.Kept)
					for n := range more {
						p.put(t, 1, 9, now, of(n, 6))
						now.More = append(now.More, of(n, 6))
					}
					if gen == 0 && parts == 3 && kept == 2 {
						now.More = append(now.More, r.More[more:]...)
					}
					if back, is := Read(p.one, 1, 9); !is || !alike(back, now) {
						t.Fatalf("%s: %s, not %s", strings.Join(p.past, "; "), told(back, is), told(now, true))
					}
				}
			}
		}
	}
}

// P17.1: drawn rows of what may be done to a small disk, with regions that overlap and few generations; what all regions hold is held behind each.
func TestDrawn(t *testing.T) {
	from := uint64(17)
	for range 400 {
		p := newPair(4 + draw(&from, 8))
		for range 25 {
			drawnStep(t, p, &from)
			p.hold(t, 0, 0)
			when := strings.Join(p.past, "; ")
			for at := range 4 {
				for size := range 12 {
					holdRead(t, p.one, at*2, size, when)
				}
			}
		}
	}
}

// drawnStep does a drawn thing to both disks.
func drawnStep(t *testing.T, p *pair, from *uint64) {
	t.Helper()
	at, size := 2*draw(from, 4), draw(from, 10)
	r := api.Region{Gen: int64(draw(from, 3)), State: of(1, 50*draw(from, 3)+draw(from, 2)), Kept: entries(draw(from, 3), 3), More: entries(draw(from, 4), 2)}
	r.Gen += int64(draw(from, 2))
	switch draw(from, 8) {
	case 0, 1:
		p.lay(t, at, size, r.Gen, r.State, r.Kept)
	case 2, 3:
		p.put(t, at, size, r, of(draw(from, 9), draw(from, 4)))
	case 4:
		if held, is := Read(p.one, at, size); is {
			p.put(t, at, size, held, of(draw(from, 9), 1+draw(from, 50)))
		}
	case 5:
		p.both("sync", func(d *disk.Disk) { d.Sync() })
	case 6:
		p.fuse(draw(from, 9) - 1)
	case 7:
		keep := make([]bool, draw(from, 20))
		for n := range keep {
			keep[n] = draw(from, 3) > 0
		}
		p.crash(keep, draw(from, 12)-1)
	}
}

// spoil puts another byte everywhere, into spare room too.
func spoil(b []byte, with byte) {
	for i := range b[:cap(b)] {
		b[:cap(b)][i] = with
	}
}

// spoilLists puts other bytes into a list of lists, and other lists in their place, into spare room too.
func spoilLists(list [][]byte, with byte) {
	for i, b := range list[:cap(list)] {
		spoil(b, with)
		list[:cap(list)][i] = []byte{with}
	}
}

// roomy is a region with room to spare behind each list, in which something stands, and a copy of all of it.
func roomy() (r, was api.Region) {
	spare := func(b []byte) []byte { return append(slices.Clone(b), bytes.Repeat([]byte{88}, 60)...) }
	s := sample()
	r.Gen, r.State = s.Gen, spare(s.State)
	for _, b := range append(s.Kept, []byte("spare")) {
		r.Kept = append(r.Kept, spare(b))
	}
	for _, b := range append(s.More, []byte("spare")) {
		r.More = append(r.More, spare(b))
	}
	was = deep(r)
	cut := func(list [][]byte, like [][]byte) [][]byte {
		for i, b := range like {
			list[i] = list[i][:len(b)]
		}
		return list[:len(like)]
	}
	r.State = r.State[:len(s.State)]
	r.Kept, r.More = cut(r.Kept, s.Kept), cut(r.More, s.More)
	return r, was
}

// full is a region with all its spare room.
func full(r api.Region, was api.Region) api.Region {
	all := func(list, like [][]byte) [][]byte {
		out := slices.Clone(list[:len(like)])
		for i := range out {
			out[i] = out[i][:len(like[i])]
		}
		return out
	}
	return api.Region{Gen: r.Gen, State: r.State[:len(was.State)], Kept: all(r.Kept, was.Kept), More: all(r.More, was.More)}
}

// P3: Lay and Put leave what they are handed, and its spare room, as it was, and keep none of it.
func TestKeepsNothing(t *testing.T) {
	r, was := roomy()
	room := append(of(4, 7), bytes.Repeat([]byte{66}, 70)...)
	entry, wasRoom := room[:7], slices.Clone(room)
	d := disk.New(12)
	at := r
	at.More = nil
	if e := Lay(d, 1, 9, r.Gen, r.State, r.Kept); e != 0 || !alike(full(r, was), was) {
		t.Fatalf("Lay: %v, or what it was handed is changed", e)
	}
	for i, b := range r.More {
		at.More = r.More[:i]
		if e := Put(d, 1, 9, at, b); e != 0 || !alike(full(r, was), was) {
			t.Fatalf("Put: %v, or what it was handed is changed", e)
		}
	}
	if e := Put(d, 1, 9, r, entry); e != 0 || !alike(full(r, was), was) || !bytes.Equal(room, wasRoom) {
		t.Fatalf("Put: %v, or what it was handed is changed", e)
	}
	for _, gen := range []int64{0, 1} {
		Lay(d, 1, 4, gen, r.State, r.Kept)
		Put(d, 1, 4, api.Region{Gen: gen, State: r.State, Kept: r.Kept, More: r.More}, entry)
		if !alike(full(r, was), was) || !bytes.Equal(room, wasRoom) {
			t.Fatal("what an error was handed is changed")
		}
	}
	want := sample()
	want.More = append(want.More, of(4, 7))
	spoil(r.State, 9)
	spoilLists(r.Kept, 9)
	spoilLists(r.More, 9)
	spoil(room, 9)
	if back, is := Read(d, 1, 9); !is || !alike(back, want) {
		t.Fatalf("%s, not %s", told(back, is), told(want, true))
	}
}

// P3: what Read gives is new memory, spare room too, as often as it is asked, and no two lists of it share any.
func TestGivesNew(t *testing.T) {
	r := sample()
	d := written(t, 12, 1, ofRegion(r)...)
	d.Write(6, ofRegion(r)[5])
	spoils := []func(r api.Region){
		func(r api.Region) { spoil(r.State, 5) },
		func(r api.Region) { spoilLists(r.Kept, 5) },
		func(r api.Region) { spoilLists(r.More, 5) },
		func(r api.Region) { spoil(r.Kept[0], 5) },
		func(r api.Region) { spoil(r.Kept[1], 5) },
		func(r api.Region) { spoil(r.More[0], 5) },
		func(r api.Region) { spoil(r.More[1], 5) },
		func(r api.Region) { spoil(r.More[2], 5) },
	}
	mends := []func(r *api.Region){
		func(x *api.Region) { x.State = r.State },
		func(x *api.Region) { x.Kept = r.Kept },
		func(x *api.Region) { x.More = r.More },
		func(x *api.Region) { x.Kept[0] = r.Kept[0] },
		func(x *api.Region) { x.Kept[1] = r.Kept[1] },
		func(x *api.Region) { x.More[0] = r.More[0] },
		func(x *api.Region) { x.More[1] = r.More[1] },
		func(x *api.Region) { x.More[2] = r.More[2] },
	}
	for i, spoils := range spoils {
		first, _ := Read(d, 1, 9)
		again, _ := Read(d, 1, 9)
		spoils(first)
		mends[i](&first)
		if !alike(first, r) {
			t.Errorf("%d: lists of one answer share their memory", i)
		}
		if third, is := Read(d, 1, 9); !alike(again, r) || !is || !alike(third, r) || Greatest(d, 1, 9) != 7 {
			t.Errorf("%d: an answer shares its memory", i)
		}
	}
}

// P3: Read and Greatest change nothing: neither what is pending, nor the fuse, nor any sector; a machine that stands still is read as well.
func TestReadsOnly(t *testing.T) {
	r := sample()
	for calls := range 4 {
		p := newPair(12)
		p.lay(t, 1, 9, r.Gen, r.State, r.Kept)
		p.both("sync", func(d *disk.Disk) { d.Sync() })
		p.put(t, 1, 9, api.Region{Gen: r.Gen, State: r.State, Kept: r.Kept}, r.More[0])
		p.fuse(calls)
		for size := range 14 {
			holdRead(t, p.one, 1, size, "fuse "+strconv.Itoa(calls))
		}
		if back, is := Read(p.one, 1, 9); !is || len(back.More) != 1 || Greatest(p.one, 1, 9) != 7 {
			t.Errorf("fuse %d: %s", calls, told(back, is))
		}
		for range 5 {
			p.hold(t, p.one.Write(0, make([]byte, 64)), p.other.Write(0, make([]byte, 64)))
		}
	}
}

// P2: beside an error nothing is changed, but what the first writes were; beside a false all is zero.
func TestZeroBesideFalse(t *testing.T) {
	list := ofRegion(sample())
	for gone := range 5 {
		d := written(t, 12, 1, list...)
		d.Write(1+gone, make([]byte, 64))
		r, is := Read(d, 1, 9)
		if is || r.Gen != 0 || len(r.State)+len(r.Kept)+len(r.More) != 0 {
			t.Errorf("without %d: %s", gone, told(r, is))
		}
	}
	d := written(t, 12, 1, list...)
	for _, c := range [][2]int{{0, 9}, {1, 0}, {1, 4}, {2, 9}, {6, 5}, {12, 4}, {math.MaxInt16, 0}} {
		r, is := Read(d, c[0], c[1])
		if is || r.Gen != 0 || len(r.State)+len(r.Kept)+len(r.More) != 0 {
			t.Errorf("%d from %d: %s", c[1], c[0], told(r, is))
		}
	}
}

// P1, P3: the same answer again, whatever was asked of other disks in between, and whoever asks beside.
func TestSameAgain(t *testing.T) {
	r := sample()
	shared := written(t, 12, 1, ofRegion(r)...)
	done := make(chan bool)
	for k := range 4 {
		go func() {
			ok := true
			own := disk.New(20)
			for i := range 200 {
				mine := api.Region{Gen: int64(i + k + 1), State: of(k, 1+i*7%999%300), Kept: entries(i%5, 3)}
				ok = ok && Lay(own, k, 15, mine.Gen, mine.State, mine.Kept) == api.OK && Put(own, k, 15, mine, of(i, 5)) == api.OK
				mine.More = [][]byte{of(i, 5)}
				back, is := Read(own, k, 15)
				ok = ok && is && alike(back, mine) && Greatest(own, k, 15) == mine.Gen
				all, is := Read(shared, 1, 9)
				ok = ok && is && alike(all, r) && Greatest(shared, 0, 12) == 7
			}
			done <- ok
		}()
	}
	for range 4 {
		if !<-done {
			t.Error("an answer hangs on others")
		}
	}
}
