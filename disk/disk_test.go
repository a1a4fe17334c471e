package disk

import (
	"bytes"
	"math"
	"slices"
	"strconv"
	"strings"
	"sync"
	"testing"

	"symbolon/api"
)

// draw is a number below n, and what the next one is drawn from.
func draw(from *uint64, n int) int {
	*from = *from*6364136223846793005 + 1442695040888963407
	return int(*from >> 33 % uint64(n))
}

// of is a sector's bytes, which differ from those of other numbers at each place.
func of(n int) []byte {
	b := make([]byte, 64)
	for i := range b {
		b[i] = byte(n + 3*i)
	}
	return b
}

// ends are no sectors of any disk: below 0, above the greatest one, and at both ends of int; such among them as are one if bits are cut off.
func ends() []int {
	return []int{-1, -2, -63, -4096, 4096, 4097, 1 << 16, 1 << 31, 1 << 32, 1<<32 + 1, -1 << 31, -1 << 32, 1 << 62, -1 << 62, math.MaxInt - 1, math.MaxInt, math.MinInt, math.MinInt + 1}
}

// event is what came to a sector: a write that was laid, or a tear.
type event struct {
	to   int
	puts string
	torn bool
}

// model is O1 to O4, written out: all that ever came to sectors, in order, what is pending, and how many calls may be done still (below 0: any number).
type model struct {
	sectors int
	past    []event
	pending []event
	fuse    int
}

// modelNew is a model, if there is one of so many sectors.
func modelNew(sectors int) *model {
	if sectors < 0 || sectors > 4096 {
		return nil
	}
	return &model{sectors: sectors, fuse: -1}
}

// dead tells whether a call is not done, and has the fuse be one less if it is.
func (m *model) dead() bool {
	switch {
	case m.fuse == 0:
		return true
	case m.fuse > 0:
		m.fuse--
	}
	return false
}

func (m *model) write(i int, b []byte) api.Errno {
	switch {
	case m.dead():
		return 42
	case len(b) != 64:
		return 1
	case i < 0 || i >= m.sectors:
		return 3
	}
	m.pending = append(m.pending, event{to: i, puts: string(b)})
	return 0
}

func (m *model) sync() api.Errno {
	if m.dead() {
		return 42
	}
	m.past = append(m.past, m.pending...)
	m.pending = nil
	return 0
}

// read is what was last to come to a sector, of what is pending first of all.
func (m *model) read(i int) ([]byte, api.Errno) {
	if i < 0 || i >= m.sectors {
		return nil, 3
	}
	last := event{puts: strings.Repeat("\x00", 64)}
	for _, e := range append(slices.Clone(m.past), m.pending...) {
		if e.to == i {
			last = e
		}
	}
	if last.torn {
		return nil, 41
	}
	return []byte(last.puts), 0
}

func (m *model) setFuse(calls int) {
	m.fuse = calls
	if calls < 0 {
		m.fuse = -1
	}
}

func (m *model) crash(keep []bool, torn int) {
	for n, e := range m.pending {
		if n == torn {
			m.past = append(m.past, event{to: e.to, torn: true})
		} else if n < len(keep) && keep[n] {
			m.past = append(m.past, e)
		}
	}
	m.pending, m.fuse = nil, -1
}

// op is one thing that is done to a disk: what it answers, and what it should.
type op struct {
	name   string
	does   func(*Disk) api.Errno
	should func(*model) api.Errno
}

func opWrite(i int, b []byte) op {
	return op{"write " + strconv.Itoa(i) + " of " + strconv.Itoa(len(b)), func(d *Disk) api.Errno { return d.Write(i, b) }, func(m *model) api.Errno { return m.write(i, b) }}
}

func opSync() op { return op{"sync", (*Disk).Sync, (*model).sync} }

func opFuse(calls int) op {
	return op{"fuse " + strconv.Itoa(calls), func(d *Disk) api.Errno { d.Fuse(calls); return 0 }, func(m *model) api.Errno { m.setFuse(calls); return 0 }}
}

func opCrash(keep []bool, torn int) op {
	name := "crash, torn " + strconv.Itoa(torn) + ", keep"
	for _, k := range keep {
		name += " " + strconv.FormatBool(k)
	}
	return op{name, func(d *Disk) api.Errno { d.Crash(keep, torn); return 0 }, func(m *model) api.Errno { m.crash(keep, torn); return 0 }}
}

// names are those of ops, for what is told of a fault.
func names(ops []op) string {
	var list []string
	for _, o := range ops {
		list = append(list, o.name)
	}
	return strings.Join(list, "; ")
}

// holdReads holds what is there of a disk against O1 to O4, of some sectors, and of some that are none.
func holdReads(t *testing.T, d *Disk, m *model, when string) {
	t.Helper()
	if d.Sectors() != m.sectors || d.Pending() != len(m.pending) {
		t.Fatalf("%s: %d sectors and %d pending, not %d and %d", when, d.Sectors(), d.Pending(), m.sectors, len(m.pending))
	}
	places := []int{-1, 0, 1, 2, m.sectors / 2, m.sectors - 2, m.sectors - 1, m.sectors, m.sectors + 1}
	for _, i := range places {
		got, e := d.Read(i)
		want, wantE := m.read(i)
		if !bytes.Equal(got, want) || e != wantE {
			t.Fatalf("%s: Read(%d): %v, %v, not %v, %v", when, i, got, e, want, wantE)
		}
	}
}

// hold does ops to a new disk, and holds what each answers, and what is there behind the last, against O1 to O4.
func hold(t *testing.T, sectors int, ops ...op) {
	t.Helper()
	d, m := New(sectors), modelNew(sectors)
	for n, o := range ops {
		if got, want := o.does(d), o.should(m); got != want {
			t.Fatalf("%d sectors: %s: %v, not %v", sectors, names(ops[:n+1]), got, want)
		}
	}
	holdReads(t, d, m, strconv.Itoa(sectors)+" sectors: "+names(ops))
}

// holdEach holds a new disk likewise, behind each op.
func holdEach(t *testing.T, sectors int, ops ...op) {
	t.Helper()
	for n := range len(ops) + 1 {
		hold(t, sectors, ops[:n]...)
	}
}

// asLong are all lists of so many bools.
func asLong(many int) [][]bool {
	lists := [][]bool{nil}
	for range many {
		var longer [][]bool
		for _, l := range lists {
			longer = append(longer, append(slices.Clone(l), false), append(slices.Clone(l), true))
		}
		lists = longer
	}
	return lists
}

// keeps are all lists of bools, from none to so many.
func keeps(most int) [][]bool {
	lists := [][]bool{nil, {}}
	for many := range most {
		lists = append(lists, asLong(many+1)...)
	}
	return lists
}

// read is what a sector has, which must be readable.
func read(t *testing.T, d *Disk, i int) []byte {
	t.Helper()
	b, e := d.Read(i)
	if e != api.OK {
		t.Fatalf("Read(%d): %v", i, e)
	}
	return b
}

// P15.1: the example of the chapter first (a write, a crash that tears it), then others that are known.
func TestKnown(t *testing.T) {
	d := New(2)
	if e := d.Write(1, of(5)); e != 0 {
		t.Fatal(e)
	}
	d.Crash(nil, 0)
	if b, e := d.Read(1); len(b) != 0 || e != 41 {
		t.Errorf("torn: %v, %v", b, e)
	}
	if b, e := d.Read(0); !bytes.Equal(b, make([]byte, 64)) || e != 0 {
		t.Errorf("at first: %v, %v", b, e)
	}
	if b, e := d.Read(2); len(b) != 0 || e != 3 {
		t.Errorf("none: %v, %v", b, e)
	}
	if e := d.Write(1, of(6)); e != 0 || d.Pending() != 1 || !bytes.Equal(read(t, d, 1), of(6)) {
		t.Errorf("written again: %v, %d pending", e, d.Pending())
	}
	if e := d.Sync(); e != 0 || d.Pending() != 0 || !bytes.Equal(read(t, d, 1), of(6)) {
		t.Errorf("synced: %v, %d pending", e, d.Pending())
	}
	d.Fuse(1)
	if a, b, c := d.Write(2, of(7)), d.Write(0, of(7)), d.Sync(); a != 3 || b != 42 || c != 42 {
		t.Errorf("fuse: %v, %v, %v", a, b, c)
	}
	d.Crash([]bool{true}, -1)
	if e := d.Write(0, of(8)); e != 0 {
		t.Errorf("anew: %v", e)
	}
}

// P15.1 (O1): disks of all sizes; none below 0, and none above MaxSectors; at first all noughts, nothing pending, and any number of calls.
func TestNew(t *testing.T) {
	for sectors := -70; sectors <= 4200; sectors++ {
		d := New(sectors)
		if (d != nil) != (sectors >= 0 && sectors <= 4096) {
			t.Fatalf("New(%d): %v", sectors, d != nil)
		}
		if d != nil && (d.Sectors() != sectors || d.Pending() != 0) {
			t.Fatalf("New(%d): %d sectors, %d pending", sectors, d.Sectors(), d.Pending())
		}
	}
	for _, sectors := range ends() {
		if d := New(sectors); (d != nil) != (sectors == 4096) {
			t.Errorf("New(%d): %v", sectors, d != nil)
		}
	}
	for _, sectors := range []int{0, 1, 2, 7, 4095, 4096} {
		d := New(sectors)
		for i := range sectors {
			if !bytes.Equal(read(t, d, i), make([]byte, 64)) {
				t.Fatalf("New(%d): sector %d is not noughts", sectors, i)
			}
		}
		for range 5000 {
			if e := d.Sync(); e != 0 {
				t.Fatalf("New(%d): %v", sectors, e)
			}
		}
	}
}

// P15.1 (O2): writes of every length of bytes, to sectors of all kinds, with none, one and several pending.
func TestWrite(t *testing.T) {
	for _, sectors := range []int{0, 1, 2, 5, 4096} {
		places := append(ends(), 0, 1, sectors-1, sectors, sectors+1)
		for length := range 140 {
			b := append(of(length), of(length)...)
			b = append(b, of(length)...)[:length]
			for _, i := range places {
				hold(t, sectors, opWrite(i, b))
				hold(t, sectors, opWrite(0, of(1)), opWrite(i, b))
				hold(t, sectors, opWrite(0, of(1)), opWrite(sectors-1, of(2)), opWrite(0, of(3)), opWrite(i, b), opWrite(0, of(4)))
			}
		}
		for _, i := range places {
			hold(t, sectors, opWrite(i, nil))
			hold(t, sectors, opWrite(i, []byte{}))
			for _, length := range []int{128, 256, 320, 4096, 65536 + 64, 1<<20 + 64} {
				hold(t, sectors, opWrite(i, make([]byte, length)))
			}
		}
	}
}

// P15.1 (O2): of a write of which several things are wrong the error is the first; bytes with spare room behind them count as they are.
func TestWriteErrors(t *testing.T) {
	d := New(3)
	for _, c := range []struct {
		i    int
		b    []byte
		want api.Errno
	}{
		{3, nil, 1}, {-1, of(1)[:63], 1}, {math.MaxInt, append(of(1), 0), 1}, {math.MinInt, make([]byte, 128), 1},
		{0, nil, 1}, {0, of(1)[:63], 1}, {2, append(of(1), 0), 1}, {0, of(1)[:0], 1},
		{3, of(1), 3}, {-1, of(1), 3}, {math.MaxInt, of(1), 3}, {math.MinInt, of(1), 3},
		{0, of(1), 0}, {2, append(of(1), 7)[:64], 0},
	} {
		if e := d.Write(c.i, c.b); e != c.want {
			t.Errorf("Write(%d, %d bytes): %v, not %v", c.i, len(c.b), e, c.want)
		}
		d.Fuse(0)
		if e := d.Write(c.i, c.b); e != 42 {
			t.Errorf("Write(%d, %d bytes), dead: %v", c.i, len(c.b), e)
		}
		d.Fuse(-1)
	}
	if d.Pending() != 2 {
		t.Errorf("%d pending", d.Pending())
	}
}

// P15.1 (O2, O3): each sector of disks of all sizes has what was written there, pending and synced, and no other has it.
func TestEachSector(t *testing.T) {
	for _, sectors := range []int{1, 2, 3, 64, 300, 4096} {
		d := New(sectors)
		for i := range sectors {
			if e := d.Write(i, of(i*7)); e != 0 {
				t.Fatal(i, e)
			}
			if i < 70 {
				if e := d.Write(i, of(i*7+i/256+1)); e != 0 {
					t.Fatal(i, e)
				}
			}
		}
		check := func(when string) {
			t.Helper()
			for i := range sectors {
				want := of(i * 7)
				if i < 70 {
					want = of(i*7 + i/256 + 1)
				}
				if got := read(t, d, i); !bytes.Equal(got, want) {
					t.Fatalf("%d sectors, %s: Read(%d): %v, not %v", sectors, when, i, got, want)
				}
			}
		}
		check("pending")
		if d.Pending() != sectors+min(sectors, 70) {
			t.Errorf("%d sectors: %d pending", sectors, d.Pending())
		}
		if e := d.Sync(); e != 0 || d.Pending() != 0 {
			t.Errorf("%d sectors: %v, %d pending", sectors, e, d.Pending())
		}
		check("synced")
	}
}

// P15.1 (O3): reads of sectors that were never written, are pending, were synced, are torn, are torn and have a write pending, and are none.
func TestRead(t *testing.T) {
	d := New(6)
	d.Write(2, of(2))
	d.Write(4, of(44))
	d.Write(5, of(55))
	d.Sync()
	d.Write(3, of(3))
	d.Crash(nil, 0)
	d.Write(4, of(66))
	d.Crash([]bool{true}, 0)
	d.Write(1, of(11))
	d.Write(1, of(1))
	d.Write(4, of(77))
	d.Write(4, of(4))
	d.Write(5, of(5))
	for i, want := range [][]byte{make([]byte, 64), of(1), of(2), nil, of(4), of(5)} {
		wantE := api.OK
		if want == nil {
			wantE = api.ErrTorn
		}
		if b, e := d.Read(i); !bytes.Equal(b, want) || e != wantE {
			t.Errorf("Read(%d): %v, %v, not %v, %v", i, b, e, want, wantE)
		}
	}
	for _, i := range append(ends(), 6, 7) {
		if b, e := d.Read(i); len(b) != 0 || e != api.ErrNone {
			t.Errorf("Read(%d): %v, %v", i, b, e)
		}
	}
}

// P15.1 (O2 to O4): a torn sector, written again and synced, kept, lost, and torn again; it stays torn till a write of it is laid.
func TestTorn(t *testing.T) {
	tear := []op{opWrite(1, of(1)), opSync(), opWrite(0, of(2)), opWrite(1, of(3)), opCrash([]bool{true, true}, 1)}
	for _, behind := range [][]op{
		{},
		{opSync()},
		{opSync(), opCrash(nil, -1)},
		{opCrash([]bool{true, true}, 1)},
		{opWrite(0, of(4)), opSync()},
		{opWrite(1, of(4))},
		{opWrite(1, of(4)), opSync()},
		{opWrite(1, of(4)), opSync(), opCrash(nil, 0)},
		{opWrite(1, of(4)), opSync(), opWrite(1, of(5)), opCrash(nil, 0)},
		{opWrite(1, of(4)), opCrash(nil, -1)},
		{opWrite(1, of(4)), opCrash(nil, -1), opSync()},
		{opWrite(1, of(4)), opCrash([]bool{true}, -1)},
		{opWrite(1, of(4)), opCrash([]bool{true}, 0)},
		{opWrite(1, of(4)), opCrash([]bool{true}, 0), opWrite(1, of(5)), opSync()},
		{opWrite(1, of(4)), opCrash([]bool{true}, 0), opWrite(1, of(5)), opCrash([]bool{true}, 0)},
		{opWrite(1, of(4)), opWrite(1, of(5)), opCrash([]bool{true, true}, 0)},
		{opWrite(1, of(4)), opWrite(1, of(5)), opCrash([]bool{true, true}, 1)},
		{opWrite(1, make([]byte, 64)), opSync()},
		{opWrite(1, of(4)[:63]), opSync()},
		{opWrite(2, of(4)), opSync()},
		{opFuse(1), opWrite(1, of(4)), opSync()},
		{opFuse(0), opWrite(1, of(4)), opFuse(-1), opSync()},
	} {
		holdEach(t, 2, append(slices.Clone(tear), behind...)...)
	}
}

// P15.1 (O4): crashes with none to five writes pending, of one, two and three sectors; keep is each list of up to six, and torn below 0, each write, the first behind them, and far behind.
func TestCrash(t *testing.T) {
	for pending := range 6 {
		for _, of3 := range []int{1, 2, 3} {
			ops := []op{opWrite(0, of(100)), opWrite(1, of(101)), opSync()}
			for n := range pending {
				ops = append(ops, opWrite(n*n%of3, of(n+1)))
			}
			for _, keep := range keeps(6) {
				for torn := -2; torn <= pending+1; torn++ {
					hold(t, 3, append(slices.Clone(ops), opCrash(keep, torn))...)
					hold(t, 3, append(slices.Clone(ops), opCrash(keep, torn), opCrash(keep, torn), opSync())...)
				}
			}
			for _, torn := range ends() {
				hold(t, 3, append(slices.Clone(ops), opCrash([]bool{true, false, true}, torn))...)
			}
		}
	}
}

// P15.1 (O4): crashes with many writes pending, keep shorter than these, as long, and longer; all kept, none, and mixed.
func TestCrashMany(t *testing.T) {
	from := uint64(1)
	for _, pending := range []int{30, 255, 256, 257, 300} {
		ops := []op{opWrite(2, of(9)), opSync()}
		for n := range pending {
			ops = append(ops, opWrite(draw(&from, 7), of(n)))
		}
		for _, length := range []int{0, 1, pending - 1, pending, pending + 1, 2 * pending} {
			mixed := make([]bool, length)
			for n := range mixed {
				mixed[n] = draw(&from, 2) == 0
			}
			for _, keep := range [][]bool{make([]bool, length), slices.Repeat([]bool{true}, length), mixed} {
				for _, torn := range []int{-1, 0, 1, pending - 2, pending - 1, pending, pending + 1} {
					hold(t, 7, append(slices.Clone(ops), opCrash(keep, torn))...)
				}
			}
		}
	}
}

// P15.1 (O4): of two pending writes of one sector either is kept, lost, or torn: what is laid last counts, and a tear behind it more.
func TestCrashTwo(t *testing.T) {
	old, one, two := of(1), of(2), of(3)
	for _, c := range []struct {
		keep []bool
		torn int
		want []byte
	}{
		{[]bool{false, false}, -1, old},
		{[]bool{true, false}, -1, one},
		{[]bool{false, true}, -1, two},
		{[]bool{true, true}, -1, two},
		{[]bool{false, false}, 0, nil},
		{[]bool{true, false}, 0, nil},
		{[]bool{false, true}, 0, two},
		{[]bool{true, true}, 0, two},
		{[]bool{false, false}, 1, nil},
		{[]bool{true, false}, 1, nil},
		{[]bool{false, true}, 1, nil},
		{[]bool{true, true}, 1, nil},
		{[]bool{true}, -1, one},
		{[]bool{true}, 0, nil},
		{[]bool{true}, 1, nil},
		{nil, 0, nil},
		{nil, 1, nil},
		{nil, 2, old},
	} {
		d := New(2)
		d.Write(1, old)
		d.Sync()
		d.Write(1, one)
		d.Write(1, two)
		d.Crash(c.keep, c.torn)
		if b, e := d.Read(1); !bytes.Equal(b, c.want) || (e == api.ErrTorn) != (c.want == nil) || d.Pending() != 0 {
			t.Errorf("Crash(%v, %d): %v, %v, not %v", c.keep, c.torn, b, e, c.want)
		}
		if b, e := d.Read(0); !bytes.Equal(b, make([]byte, 64)) || e != 0 {
			t.Errorf("Crash(%v, %d): sector 0 has %v, %v", c.keep, c.torn, b, e)
		}
	}
}

// P15.1: fuses of all kinds: so many calls are done, those that are errors among them, then none, until a crash or another fuse.
func TestFuse(t *testing.T) {
	calls := []func(*Disk) api.Errno{
		func(d *Disk) api.Errno { return d.Write(0, of(1)) },
		(*Disk).Sync,
		func(d *Disk) api.Errno { return d.Write(0, nil) },
		func(d *Disk) api.Errno { return d.Write(-1, of(1)) },
		func(d *Disk) api.Errno { return d.Write(9, of(1)[:63]) },
	}
	answers := []api.Errno{0, 0, 1, 3, 1}
	for fuse := range 30 {
		for first := range calls {
			d := New(1)
			d.Fuse(fuse)
			for n := range 40 {
				at := (first + n) % len(calls)
				want := answers[at]
				if n >= fuse {
					want = 42
				}
				if e := calls[at](d); e != want {
					t.Fatalf("fuse %d: call %d (%d) is %v, not %v", fuse, n, at, e, want)
				}
			}
			if fuse%2 == 0 {
				d.Crash(nil, -1)
			} else {
				d.Fuse(-1)
			}
			for n := range 40 {
				if e := calls[n%len(calls)](d); e != answers[n%len(calls)] {
					t.Fatalf("fuse %d: anew, call %d is %v", fuse, n, e)
				}
			}
		}
	}
	for _, fuse := range []int{-1, -2, -9, -1 << 32, math.MinInt, math.MinInt + 1, math.MaxInt, 1 << 32, 5000} {
		d := New(1)
		d.Fuse(0)
		d.Fuse(fuse)
		for n := range 5000 {
			if e := calls[n%len(calls)](d); e != answers[n%len(calls)] {
				t.Fatalf("fuse %d: call %d is %v", fuse, n, e)
			}
		}
	}
}

// P15.1: another fuse counts from its own number on, whatever is left of the one before.
func TestFuseAgain(t *testing.T) {
	for one := -2; one < 5; one++ {
		for done := range 6 {
			for two := -2; two < 5; two++ {
				ops := []op{opFuse(one)}
				for n := range done {
					ops = append(ops, opWrite(n%2, of(n)))
				}
				ops = append(ops, opFuse(two))
				for n := range 6 {
					ops = append(ops, opWrite(1, of(10+n)))
				}
				hold(t, 2, ops...)
				hold(t, 2, append(ops, opCrash([]bool{true}, 1), opWrite(0, of(20)), opSync())...)
			}
		}
	}
}

// P15.1 (O3, O4): Read, Pending, Sectors, Fuse and Crash are no calls: with a fuse of 0 each does what it does, and none takes from a fuse.
func TestNoCalls(t *testing.T) {
	d := New(2)
	d.Write(0, of(1))
	d.Sync()
	d.Write(1, of(2))
	for _, fuse := range []int{0, 1, 2} {
		d.Fuse(fuse)
		for range 10 {
			if !bytes.Equal(read(t, d, 0), of(1)) || !bytes.Equal(read(t, d, 1), of(2)) || d.Pending() != 1 || d.Sectors() != 2 {
				t.Fatalf("fuse %d: %d pending, %d sectors", fuse, d.Pending(), d.Sectors())
			}
			if b, e := d.Read(2); len(b) != 0 || e != 3 {
				t.Fatalf("fuse %d: %v, %v", fuse, b, e)
			}
		}
		for n := range fuse {
			if e := d.Write(5, of(1)); e != 3 {
				t.Fatalf("fuse %d: call %d is %v", fuse, n, e)
			}
		}
		if e := d.Sync(); e != 42 {
			t.Fatalf("fuse %d: %v", fuse, e)
		}
	}
	d.Crash([]bool{true}, -1)
	if !bytes.Equal(read(t, d, 1), of(2)) || d.Pending() != 0 {
		t.Errorf("a crash with a fuse of 0: %d pending", d.Pending())
	}
}

// P15.1: a call that is an error leaves all as it was, but for the fuse.
func TestErrorsLeave(t *testing.T) {
	ahead := []op{opWrite(0, of(1)), opWrite(1, of(2)), opSync(), opWrite(2, of(3)), opCrash(nil, 0), opWrite(1, of(4)), opWrite(1, of(5)), opWrite(3, of(6))}
	wrong := []op{opWrite(1, nil), opWrite(1, of(7)[:63]), opWrite(1, append(of(7), 7)), opWrite(4, of(7)), opWrite(-1, of(7)), opWrite(4, nil)}
	behind := []op{opCrash([]bool{true, false, true}, -1)}
	for _, w := range wrong {
		hold(t, 4, append(slices.Clone(ahead), w, w)...)
		hold(t, 4, slices.Concat(ahead, []op{w, w}, behind)...)
		hold(t, 4, slices.Concat(ahead, []op{opFuse(2), w, w, opSync(), opWrite(1, of(8))}, behind)...)
	}
	for _, dead := range []op{opWrite(1, of(7)), opSync(), opWrite(1, nil), opWrite(4, of(7))} {
		hold(t, 4, append(slices.Clone(ahead), opFuse(0), dead)...)
		hold(t, 4, slices.Concat(ahead, []op{opFuse(0), dead, dead}, behind)...)
		hold(t, 4, slices.Concat(ahead, []op{opFuse(0), dead, opFuse(1), opSync(), dead})...)
	}
}

// P15.1: all rows of five things that are done to a disk of two sectors.
func TestAllRows(t *testing.T) {
	all := []op{
		opWrite(0, of(1)), opWrite(1, of(2)), opWrite(0, of(3)), opWrite(2, of(4)), opSync(),
		opCrash(nil, -1), opCrash([]bool{true, true, true}, -1), opCrash([]bool{true}, 0), opCrash([]bool{false, true}, 1), opCrash([]bool{true, true, true}, 1),
		opFuse(0), opFuse(1), opFuse(2),
	}
	ops := make([]op, 5)
	var goOn func(at int)
	goOn = func(at int) {
		hold(t, 2, ops[:at]...)
		if at == len(ops) {
			return
		}
		for _, o := range all {
			ops[at] = o
			goOn(at + 1)
		}
	}
	goOn(0)
}

// drawnOp is one thing of any kind, right or wrong.
func drawnOp(from *uint64, sectors int) op {
	place := func() int { return min(draw(from, 5), sectors-1) }
	switch draw(from, 12) {
	case 0:
		return opSync()
	case 1:
		keep := make([]bool, draw(from, 9))
		for n := range keep {
			keep[n] = draw(from, 2) == 0
		}
		return opCrash(keep, draw(from, 9)-2)
	case 2:
		return opFuse(draw(from, 14) - 2)
	case 3:
		return opWrite(place(), of(draw(from, 256))[:draw(from, 65)])
	case 4:
		return opWrite(ends()[draw(from, len(ends()))], of(draw(from, 256)))
	case 5:
		return opWrite(sectors-draw(from, 3), of(draw(from, 256)))
	}
	return opWrite(place(), of(draw(from, 256)))
}

// P15.1: long rows of things that are drawn, to disks of no sector, one, a few, and MaxSectors.
func TestDrawnRows(t *testing.T) {
	from := uint64(2)
	for _, sectors := range []int{0, 1, 2, 3, 5, 4096} {
		for range 60 {
			d, m := New(sectors), modelNew(sectors)
			var ops []op
			for range 80 {
				o := drawnOp(&from, sectors)
				ops = append(ops, o)
				if got, want := o.does(d), o.should(m); got != want {
					t.Fatalf("%d sectors: %s: %v, not %v", sectors, names(ops), got, want)
				}
				holdReads(t, d, m, names(ops))
			}
		}
	}
}

// P15.2 (what lasts): what is read behind a Sync is read behind each crash, of a sector to which no write is pending.
func TestWhatLasts(t *testing.T) {
	from := uint64(3)
	for range 3000 {
		d := New(6)
		for range draw(&from, 30) {
			drawnOp(&from, 6).does(d)
		}
		d.Fuse(-1)
		if e := d.Sync(); e != 0 {
			t.Fatal(e)
		}
		var was [6][]byte
		var err [6]api.Errno
		for i := range was {
			was[i], err[i] = d.Read(i)
		}
		var touched [6]bool
		for range 1 + draw(&from, 4) {
			for n := range draw(&from, 8) {
				i := draw(&from, 3) * 2
				touched[i] = true
				d.Write(i, of(n))
			}
			keep := asLong(draw(&from, 9))
			d.Crash(keep[draw(&from, len(keep))], draw(&from, 10)-2)
			for i := range was {
				if b, e := d.Read(i); !touched[i] && (!bytes.Equal(b, was[i]) || e != err[i]) {
					t.Fatalf("Read(%d): %v, %v, not %v, %v", i, b, e, was[i], err[i])
				}
			}
		}
	}
}

// P15.3 (what may be): behind a crash a sector has what it had at the last Sync, or what a pending write put there, or is torn.
func TestWhatMayBe(t *testing.T) {
	from := uint64(4)
	for _, keep := range keeps(5) {
		for torn := -2; torn < 7; torn++ {
			d := New(3)
			may := make([][][]byte, 3)
			for i := range may {
				d.Write(i, of(50+i))
				may[i] = [][]byte{of(50 + i)}
			}
			d.Sync()
			tearable := [3]bool{}
			for n := range 5 {
				i := draw(&from, 3)
				d.Write(i, of(n))
				may[i] = append(may[i], of(n))
				tearable[i] = tearable[i] || n == torn
			}
			d.Crash(keep, torn)
			for i := range may {
				b, e := d.Read(i)
				has := slices.ContainsFunc(may[i], func(one []byte) bool { return bytes.Equal(one, b) })
				if !(e == api.OK && has) && !(e == api.ErrTorn && len(b) == 0 && tearable[i]) {
					t.Fatalf("Crash(%v, %d): Read(%d): %v, %v", keep, torn, i, b, e)
				}
			}
		}
	}
}

// P15.3 (what may be): each of these is what a sector has, behind some crash.
func TestEachMayBe(t *testing.T) {
	seen := map[string]bool{}
	for _, keep := range keeps(3) {
		for torn := -1; torn < 3; torn++ {
			d := New(1)
			d.Write(0, of(7))
			d.Sync()
			for n := range 3 {
				d.Write(0, of(n))
			}
			d.Crash(keep, torn)
			b, e := d.Read(0)
			seen[string(b)+e.Error()] = true
		}
	}
	for _, n := range []int{0, 1, 2, 7} {
		if !seen[string(of(n))+api.OK.Error()] {
			t.Errorf("no crash leaves %d", n)
		}
	}
	if !seen[api.ErrTorn.Error()] || len(seen) != 5 {
		t.Errorf("%d kinds", len(seen))
	}
}

// P15.4 (all of it): with all kept, and none torn, what is read stays, also of sectors that were torn ahead.
func TestAllOfIt(t *testing.T) {
	from := uint64(5)
	for round := range 4000 {
		sectors := 1 + draw(&from, 6)
		d := New(sectors)
		for range draw(&from, 40) {
			drawnOp(&from, sectors).does(d)
		}
		var was [][]byte
		var err []api.Errno
		for i := range sectors {
			b, e := d.Read(i)
			was, err = append(was, b), append(err, e)
		}
		keep := slices.Repeat([]bool{true}, d.Pending()+draw(&from, 3))
		torn := []int{-1, -2, math.MinInt, d.Pending(), d.Pending() + 1, math.MaxInt}[draw(&from, 6)]
		d.Crash(keep, torn)
		for i := range sectors {
			if b, e := d.Read(i); !bytes.Equal(b, was[i]) || e != err[i] {
				t.Fatalf("round %d: Read(%d): %v, %v, not %v, %v", round, i, b, e, was[i], err[i])
			}
		}
		if d.Pending() != 0 {
			t.Fatalf("round %d: %d pending", round, d.Pending())
		}
	}
}

// P3: what is handed in stays as it was, its spare room too, and is not kept.
func TestHandedIn(t *testing.T) {
	d := New(2)
	room := append(of(1), of(2)...)
	was := slices.Clone(room)
	b := room[:64]
	d.Write(0, b)
	d.Write(1, b)
	if !slices.Equal(room, was) {
		t.Fatal("Write changed what was handed in")
	}
	clear(room)
	if !bytes.Equal(read(t, d, 0), of(1)) {
		t.Fatal("a pending write has changed with what was handed in")
	}
	copy(room, was)
	d.Sync()
	clear(room)
	if !bytes.Equal(read(t, d, 0), of(1)) || !bytes.Equal(read(t, d, 1), of(1)) {
		t.Fatal("a sector has changed with what was handed in")
	}
	bools := []bool{true, false, true, true}
	wasKept := slices.Clone(bools)
	keep := bools[:2]
	d.Write(0, of(3))
	d.Write(1, of(4))
	d.Crash(keep, 1)
	if !slices.Equal(bools, wasKept) {
		t.Fatal("Crash changed what was handed in")
	}
	d.Write(1, of(5))
	d.Write(0, of(6))
	d.Write(1, of(7))
	d.Crash(keep, -1)
	if !bytes.Equal(read(t, d, 0), of(3)) || !bytes.Equal(read(t, d, 1), of(5)) {
		t.Fatal("Crash looked into what stands behind what was handed in")
	}
	d.Write(0, of(8))
	bools[0] = false
	d.Crash(keep, -1)
	if !bytes.Equal(read(t, d, 0), of(3)) {
		t.Fatal("Crash has kept what was handed in ahead")
	}
}

// spoil fills what was answered, its spare room too, with other bytes.
func spoil(b []byte) {
	b = b[:cap(b)]
	for i := range b {
		b[i] ^= 0xa5
	}
}

// P3: what comes out is new memory, of sectors that were never written, are pending, and were synced; two answers share none.
func TestComesOut(t *testing.T) {
	d := New(4)
	d.Write(1, of(1))
	d.Sync()
	d.Write(2, of(2))
	d.Write(3, of(33))
	d.Write(3, of(3))
	wants := [][]byte{make([]byte, 64), of(1), of(2), of(3)}
	for i, want := range wants {
		one, two := read(t, d, i), read(t, d, i)
		spoil(one)
		if !bytes.Equal(two, want) {
			t.Fatalf("sector %d: two answers share memory", i)
		}
		spoil(two)
	}
	check := func(when string) {
		t.Helper()
		for i, want := range wants {
			if got := read(t, d, i); !bytes.Equal(got, want) {
				t.Fatalf("%s, sector %d: %v, not %v", when, i, got, want)
			}
			spoil(read(t, d, i))
		}
	}
	check("pending")
	held := read(t, d, 3)
	d.Write(3, of(9))
	d.Crash([]bool{true, true, true}, -1)
	check("laid")
	d.Write(3, of(5))
	d.Sync()
	if !bytes.Equal(held, of(3)) {
		t.Fatal("what came out has changed with the sector")
	}
}

// P3: what a disk answers hangs on the calls on it alone: two disks share nothing, also where several are asked at a time.
func TestOthers(t *testing.T) {
	d, other := New(2), New(2)
	d.Write(0, of(1))
	other.Write(0, of(2))
	d.Fuse(1)
	other.Sync()
	other.Write(1, of(3))
	other.Crash(nil, 0)
	if d.Pending() != 1 || !bytes.Equal(read(t, d, 0), of(1)) || !bytes.Equal(read(t, d, 1), make([]byte, 64)) {
		t.Error("one disk has what was done to another")
	}
	if e := other.Sync(); e != 0 || !bytes.Equal(read(t, other, 0), of(2)) {
		t.Error("another has what was done to one")
	}
	keep, b := []bool{true, false, true}, of(4)
	var all sync.WaitGroup
	for n := range 8 {
		all.Go(func() {
			from := uint64(n)
			d, m := New(3), modelNew(3)
			for range 300 {
				o := drawnOp(&from, 3)
				if draw(&from, 3) == 0 {
					o = []op{opWrite(1, b), opCrash(keep, 1)}[draw(&from, 2)]
				}
				if got, want := o.does(d), o.should(m); got != want {
					t.Errorf("%s: %v, not %v", o.name, got, want)
				}
			}
			got, e := d.Read(1)
			if want, wantE := m.read(1); !bytes.Equal(got, want) || e != wantE {
				t.Errorf("%v, %v, not %v, %v", got, e, want, wantE)
			}
		})
	}
	all.Wait()
}

// P1: with many writes pending, and many calls, all end; the same again answers the same.
func TestMany(t *testing.T) {
	var answers [2][]byte
	for round := range answers {
		d := New(4096)
		for n := range 200000 {
			if e := d.Write(n*37%4096, of(n)); e != 0 {
				t.Fatal(e)
			}
		}
		if d.Pending() != 200000 {
			t.Fatalf("%d pending", d.Pending())
		}
		d.Crash(slices.Repeat([]bool{true}, 150000), 149999)
		for i := range 4096 {
			b, e := d.Read(i)
			answers[round] = append(append(answers[round], byte(e)), b...)
		}
	}
	if !bytes.Equal(answers[0], answers[1]) {
		t.Error("the same again answers otherwise")
	}
}
