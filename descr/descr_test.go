package descr

import (
	"fmt"
	"math"
	"regexp"
	"slices"
	"strings"
	"testing"

	"symbolon/api"
)

// same: are two networks alike?
func same(a, b api.Net) bool { return a.In == b.In && slices.Equal(a.Layers, b.Layers) }

// one is the network of one layer, and of In 1 2 3.
func one(l api.Layer) api.Net {
	return api.Net{In: api.Shape{C: 1, H: 2, W: 3}, Layers: []api.Layer{l}}
}

// squares is the network of so many squares.
func squares(many int) api.Net {
	return api.Net{In: api.Shape{C: 1, H: 2, W: 3}, Layers: slices.Repeat([]api.Layer{{Kind: api.Square}}, many)}
}

// wantText holds a network against the text that is its own, both ways.
func wantText(t *testing.T, n api.Net, want string) {
	t.Helper()
	if !Form(n) {
		t.Errorf("%v has no form", n)
	}
	if got := Print(n); got != want {
		t.Errorf("Print(%v): %q, not %q", n, got, want)
	}
	if got, at, e := Parse(want); !same(got, n) || at != 0 || e != api.OK {
		t.Errorf("Parse(%q): %v, %d, %d, not %v", want, got, at, e, n)
	}
}

// wantNone holds a network against having no form, nor a text.
func wantNone(t *testing.T, n api.Net) {
	t.Helper()
	if Form(n) {
		t.Errorf("%v has a form", n)
	}
	if got := Print(n); got != "" {
		t.Errorf("Print(%v): %q", n, got)
	}
}

// wantWrong holds a text against its first wrong line, beside which stands a zero network.
func wantWrong(t *testing.T, s string, at int, e api.Errno) {
	t.Helper()
	got, where, error := Parse(s)
	if where != at || error != e {
		t.Errorf("Parse(%q): line %d, error %d, not %d, %d", s, where, error, at, e)
	}
	if got.In != (api.Shape{}) || len(got.Layers) != 0 {
		t.Errorf("Parse(%q): %v beside error %d", s, got, error)
	}
}

// beyond are numbers that are none of a network's.
func beyond() []int {
	return []int{-1, -2, -999999, 1000000, 1000001, 9999999, 1 << 31, 1 << 32, 1<<32 + 1, -1 << 32, math.MaxInt, math.MinInt}
}

// P4.1 (D1, D2), P4.2: In's numbers, each in its own place, at both limits; no layers at all.
func TestIn(t *testing.T) {
	wantText(t, api.Net{}, "in 0 0 0\n")
	wantText(t, api.Net{Layers: []api.Layer{}}, "in 0 0 0\n")
	wantText(t, api.Net{In: api.Shape{C: 1, H: 2, W: 3}}, "in 1 2 3\n")
	for _, n := range []int{1, 9, 10, 999998, 999999} {
		wantText(t, api.Net{In: api.Shape{C: n}}, fmt.Sprintf("in %d 0 0\n", n))
		wantText(t, api.Net{In: api.Shape{H: n}}, fmt.Sprintf("in 0 %d 0\n", n))
		wantText(t, api.Net{In: api.Shape{W: n}}, fmt.Sprintf("in 0 0 %d\n", n))
		wantText(t, api.Net{In: api.Shape{C: n, H: n, W: n}}, fmt.Sprintf("in %d %d %d\n", n, n, n))
	}
}

// P4.1 (D1): In's numbers, each just beyond its limits, and far from them.
func TestInBeyond(t *testing.T) {
	for _, n := range beyond() {
		for _, in := range []api.Shape{{C: n, H: 2, W: 3}, {C: 1, H: n, W: 3}, {C: 1, H: 2, W: n}, {C: n, H: n, W: n}} {
			wantNone(t, api.Net{In: in})
			wantNone(t, api.Net{In: in, Layers: []api.Layer{{Kind: api.Square}}})
		}
	}
}

// P4.1 (D1, D2), P4.2: each kind of layer, its numbers in their places and at both limits.
func TestLayers(t *testing.T) {
	wantText(t, one(api.Layer{Kind: api.Conv, Out: 4, Size: 5, Step: 6}), "in 1 2 3\nconv 4 5 6\n")
	wantText(t, one(api.Layer{Kind: api.Square}), "in 1 2 3\nsquare\n")
	wantText(t, one(api.Layer{Kind: api.Pool, Size: 4}), "in 1 2 3\npool 4\n")
	wantText(t, one(api.Layer{Kind: api.Dense, Out: 4}), "in 1 2 3\ndense 4\n")
	wantText(t, api.Net{In: api.Shape{C: 1, H: 2, W: 2}, Layers: []api.Layer{{Kind: api.Pool, Size: 2}}}, "in 1 2 2\npool 2\n")
	for _, n := range []int{0, 1, 999998, 999999} {
		wantText(t, one(api.Layer{Kind: api.Conv, Out: n}), fmt.Sprintf("in 1 2 3\nconv %d 0 0\n", n))
		wantText(t, one(api.Layer{Kind: api.Conv, Size: n}), fmt.Sprintf("in 1 2 3\nconv 0 %d 0\n", n))
		wantText(t, one(api.Layer{Kind: api.Conv, Step: n}), fmt.Sprintf("in 1 2 3\nconv 0 0 %d\n", n))
		wantText(t, one(api.Layer{Kind: api.Conv, Out: n, Size: n, Step: n}), fmt.Sprintf("in 1 2 3\nconv %d %d %d\n", n, n, n))
		wantText(t, one(api.Layer{Kind: api.Pool, Size: n}), fmt.Sprintf("in 1 2 3\npool %d\n", n))
		wantText(t, one(api.Layer{Kind: api.Dense, Out: n}), fmt.Sprintf("in 1 2 3\ndense %d\n", n))
	}
}

// P4.1 (D1): each number of each kind just beyond its limits, and far from them; and numbers that the kind does not have, which are not 0.
func TestLayersBeyond(t *testing.T) {
	for _, n := range beyond() {
		for kind := api.Conv; kind <= api.Dense; kind++ {
			for _, l := range []api.Layer{{Kind: kind, Out: n}, {Kind: kind, Size: n}, {Kind: kind, Step: n}, {Kind: kind, Out: n, Size: n, Step: n}} {
				wantNone(t, one(l))
			}
		}
	}
	for _, n := range []int{1, 2, 999999} {
		for _, l := range []api.Layer{
			{Kind: api.Square, Out: n}, {Kind: api.Square, Size: n}, {Kind: api.Square, Step: n}, {Kind: api.Square, Out: n, Size: n, Step: n},
			{Kind: api.Pool, Size: 2, Out: n}, {Kind: api.Pool, Size: 2, Step: n}, {Kind: api.Pool, Out: n}, {Kind: api.Pool, Step: n}, {Kind: api.Pool, Out: n, Size: n, Step: n},
			{Kind: api.Dense, Out: 2, Size: n}, {Kind: api.Dense, Out: 2, Step: n}, {Kind: api.Dense, Size: n}, {Kind: api.Dense, Step: n}, {Kind: api.Dense, Out: n, Size: n, Step: n},
		} {
			wantNone(t, one(l))
		}
	}
}

// P4.1 (D1): kinds that are none, some of which go round to one in fewer bits.
func TestKindsThatAreNone(t *testing.T) {
	for _, kind := range []int{0, 5, 6, -1, -2, -3, -4, 100, 256 + api.Square, 1<<16 + api.Square, 1<<32 + api.Square, math.MaxInt, math.MinInt, math.MinInt + api.Square} {
		wantNone(t, one(api.Layer{Kind: kind}))
		wantNone(t, one(api.Layer{Kind: kind, Out: 1}))
		wantNone(t, one(api.Layer{Kind: kind, Out: 1, Size: 1, Step: 1}))
	}
}

// P4.1 (D1), P4.3: a layer that has no form, at each place among such that have one.
func TestOneLayerWithoutForm(t *testing.T) {
	for many := 1; many <= api.MaxLayers; many++ {
		for at := range many {
			n := squares(many)
			n.Layers[at].Step = 1
			wantNone(t, n)
			lines := strings.SplitAfter(Print(squares(many)), "\n")
			lines[at+1] = "square 1\n"
			wantWrong(t, strings.Join(lines, ""), at+2, api.ErrForm)
		}
	}
}

// P4.1 (D1, D2): no layer up to MaxLayers, and one more, and many more.
func TestHowManyLayers(t *testing.T) {
	for many := range api.MaxLayers + 1 {
		wantText(t, squares(many), "in 1 2 3\n"+strings.Repeat("square\n", many))
	}
	for _, many := range []int{api.MaxLayers + 1, api.MaxLayers + 2, 2 * api.MaxLayers, 1000} {
		wantNone(t, squares(many))
		wantNone(t, api.Net{Layers: make([]api.Layer, many)})
		wantWrong(t, "in 1 2 3\n"+strings.Repeat("square\n", many), api.MaxLayers+2, api.ErrFull)
	}
}

// P4.1 (D2): behind MaxLayers layers each line more is one too many, whatever it is; a wrong line ahead of it is told first.
func TestBeyondMaxLayers(t *testing.T) {
	full := "in 1 2 3\n" + strings.Repeat("pool 2\n", api.MaxLayers)
	for _, s := range []string{"square\n", "square", "pool 2\npool 2\n", "x\n", "x", "\n", "\n\n", " ", "in 1 2 3\n", "conv 1 2\n", "square 1\n", "\xff", "\xff\n", "\x00"} {
		wantWrong(t, full+s, api.MaxLayers+2, api.ErrFull)
		for at := range api.MaxLayers + 1 {
			lines := strings.SplitAfter(full, "\n")
			lines[at] = "x\n"
			wantWrong(t, strings.Join(lines, "")+s, at+1, api.ErrForm)
		}
	}
	wantWrong(t, strings.Repeat("square\n", api.MaxLayers+2), 1, api.ErrForm)
	wantWrong(t, strings.TrimSuffix(full, "\n"), api.MaxLayers+1, api.ErrForm)
}

// P4.1 (D2): empty texts, empty lines, no last line feed, and something behind it.
func TestEnds(t *testing.T) {
	for _, c := range []struct {
		s  string
		at int
	}{
		{"", 1}, {"\n", 1}, {"\n\n", 1}, {" ", 1}, {" \n", 1}, {"x", 1}, {"x\n", 1}, {"\xff\n", 1},
		{"in", 1}, {"in 1 2 3", 1}, {"in 1 2 3 ", 1}, {"\nin 1 2 3\n", 1}, {"\nin 1 2 3\nsquare\n", 1}, {"\n\nin 1 2 3\n", 1},
		{"in 1 2 3\n\n", 2}, {"in 1 2 3\n\nsquare\n", 2}, {"in 1 2 3\n\n\nsquare\n", 2}, {"in 1 2 3\nsquare\n\nsquare\n", 3}, {"in 1 2 3\nsquare\n\n", 3}, {"in 1 2 3\nsquare\n\n\n", 3},
		{"in 1 2 3\nsquare", 2}, {"in 1 2 3\npool 2", 2}, {"in 1 2 3\nsquare\nsquare", 3}, {"in 1 2 3\n ", 2}, {"in 1 2 3\n\x00", 2}, {"in 1 2 3\nsquare\nx", 3}, {"in 1 2 3\nsquare\n ", 3},
		{"in 1 2 3\nsquare\n\xc3", 3}, {"in 1 2 3\r\n", 1}, {"in 1 2 3\rsquare\n", 1}, {"in 1 2 3\nsquare\r\n", 2}, {"in 1 2 3square\n", 1}, {"in 1 2 3 square\n", 1}, {"in 1 2 3\nsquare square\n", 2},
	} {
		wantWrong(t, c.s, c.at, api.ErrForm)
	}
}

// lines are those that can stand first, if in, or else those that can stand behind it.
func lines(in bool) []string {
	if in {
		return []string{"in 1 2 3", "in 0 0 0", "in 999999 999999 999999"}
	}
	return []string{"conv 4 5 6", "square", "pool 4", "dense 4", "conv 0 0 0", "pool 0", "dense 999999"}
}

// spoilt are lines that are none, each made of a right one.
func spoilt(line string) []string {
	words := strings.Split(line, " ")
	all := []string{"", " ", " " + line, line + " ", "\t" + line, line + "\t", line + "\r", line + " 1", line + " x", "1 " + line, "x " + line, line + line, line + "\x00", "\ufeff" + line, line + "é", line + "\xff", line + "."}
	for _, w := range []string{"x", "i", "n", "inn", "con", "convs", "conv1", "squares", "sqare", "pools", "denser", "0", "1", "2", "3", "4", "In", "IN", "Conv", "SQUARE"} {
		all = append(all, strings.Join(append([]string{w}, words[1:]...), " "))
	}
	for i := 1; i < len(words); i++ {
		all = append(all, strings.Join(words[:i], " ")) // too few
		all = append(all, strings.Join(words[:i], " ")+"  "+strings.Join(words[i:], " "))
		all = append(all, strings.Join(words[:i], " ")+"\t"+strings.Join(words[i:], " "))
		all = append(all, strings.Join(words[:i], " ")+strings.Join(words[i:], " "))
		for _, no := range []string{"", "00", "01", "+1", "-1", "-0", "1000000", "x", "1x", "0x1", "1.0", "1e3", "1_0", "18446744073709551617", "4294967297", "٥", "\xff"} {
			w := slices.Clone(words)
			w[i] = no
			all = append(all, strings.Join(w, " "))
		}
	}
	return all
}

// P4.1 (D2), P4.3: lines that are none: where In stands, where the first and the second layer stand, with right and with wrong ones behind them.
func TestWrongLines(t *testing.T) {
	for _, behind := range []string{"", "square\n", "x\n", "\n", "x", "square\nx\nin 1 2 3\n"} {
		for _, line := range lines(true) {
			for _, s := range spoilt(line) {
				wantWrong(t, s+"\n"+behind, 1, api.ErrForm)
			}
		}
		for _, line := range lines(false) {
			for _, s := range spoilt(line) {
				wantWrong(t, "in 1 2 3\n"+s+"\n"+behind, 2, api.ErrForm)
				wantWrong(t, "in 1 2 3\nconv 1 2 3\n"+s+"\n"+behind, 3, api.ErrForm)
			}
		}
	}
}

// P4.1 (D2), P4.3: a layer's line where In stands, and In's where a layer stands.
func TestLinesInWrongPlaces(t *testing.T) {
	for _, line := range lines(false) {
		wantWrong(t, line+"\n", 1, api.ErrForm)
		wantWrong(t, line+"\nin 1 2 3\n", 1, api.ErrForm)
		wantWrong(t, line+"\n"+line+"\n", 1, api.ErrForm)
	}
	for _, line := range lines(true) {
		for many := range api.MaxLayers {
			wantWrong(t, "in 1 2 3\n"+strings.Repeat("square\n", many)+line+"\n", many+2, api.ErrForm)
			wantWrong(t, "in 1 2 3\n"+strings.Repeat("square\n", many)+line+"\nsquare\n", many+2, api.ErrForm)
		}
	}
}

// P4.1 (D2): words of one kind of layer with as many numbers as another one has.
func TestHowManyNumbers(t *testing.T) {
	have := map[string]int{"conv": 3, "square": 0, "pool": 1, "dense": 1, "in": -1}
	for word, many := range have {
		for given := range 6 {
			s := "in 1 2 3\n" + word + strings.Repeat(" 7", given) + "\n"
			if given != many {
				wantWrong(t, s, 2, api.ErrForm)
			} else if n, at, e := Parse(s); Print(n) != s || at != 0 || e != api.OK {
				t.Errorf("Parse(%q): %v, %d, %d", s, n, at, e)
			}
			first := word + strings.Repeat(" 7", given) + "\n"
			if word != "in" || given != 3 {
				wantWrong(t, first, 1, api.ErrForm)
			}
		}
	}
}

// Patterns of the lines that can stand first, and behind.
const number = ` (?:0|[1-9][0-9]{0,5})`

var (
	first = regexp.MustCompile(`\Ain` + number + number + number + `\n\z`)
	other = regexp.MustCompile(`\A(?:conv` + number + number + number + `|square|pool` + number + `|dense` + number + `)\n\z`)
)

// told is what patterns tell of a text: its first wrong line, and which error; 0 and OK, if there is none.
func told(s string) (int, api.Errno) {
	all := strings.SplitAfter(s, "\n")
	for i, line := range all {
		if i > 0 && i == len(all)-1 && line == "" {
			break
		}
		switch {
		case i > api.MaxLayers:
			return i + 1, api.ErrFull
		case i == 0 && !first.MatchString(line), i > 0 && !other.MatchString(line):
			return i + 1, api.ErrForm
		}
	}
	return 0, api.OK
}

// P4.1 (D2), P4.2, P4.3: all texts of few pieces, held against what patterns tell of them; each that is a network's is that of what is got.
func TestAllShortTexts(t *testing.T) {
	pieces := []string{"in 1 2 3\n", "conv 4 5 6\n", "square\n", "pool 7\n", "dense 8\n", "square", "\n", "x\n", "in", " 1"}
	all := []string{""}
	right := 0
	for from, long := 0, 0; long < 4; long++ {
		to := len(all)
		for _, s := range all[from:to] {
			for _, p := range pieces {
				all = append(all, s+p)
			}
		}
		from = to
	}
	for _, s := range all {
		at, e := told(s)
		if e != api.OK {
			wantWrong(t, s, at, e)
			continue
		}
		right++
		n, at, e := Parse(s)
		if at != 0 || e != api.OK {
			t.Errorf("Parse(%q): %d, %d", s, at, e)
		}
		wantText(t, n, s)
	}
	if right < 85 {
		t.Errorf("but %d texts were right", right)
	}
}

// P4.1 (D2), P4.3: long texts, with two wrong lines at any two places: the first one is told.
func TestTheFirstWrongLine(t *testing.T) {
	for many := 1; many <= api.MaxLayers+4; many++ {
		for a := range many {
			for b := a; b < many; b++ {
				all := slices.Repeat([]string{"dense 1\n"}, many)
				all[0] = "in 1 2 3\n"
				all[a], all[b] = "dense 01\n", "\n"
				want := api.ErrForm
				at := a + 1
				if at > api.MaxLayers+1 {
					want, at = api.ErrFull, api.MaxLayers+2
				}
				s := strings.Join(all, "")
				wantWrong(t, s, at, want)
				if modelAt, model := told(s); modelAt != at || model != want {
					t.Errorf("%q: patterns tell %d, %d", s, modelAt, model)
				}
			}
		}
	}
}

// P4.2: networks of all kinds of layers, in all orders up to three, are got back.
func TestThereAndBack(t *testing.T) {
	kinds := []api.Layer{{Kind: api.Conv, Out: 4, Size: 5, Step: 6}, {Kind: api.Square}, {Kind: api.Pool, Size: 999999}, {Kind: api.Dense, Out: 10}}
	nets := []api.Net{{In: api.Shape{C: 7, H: 8, W: 9}}}
	for i := 0; i < len(nets) && len(nets[i].Layers) < 3; i++ {
		for _, l := range kinds {
			nets = append(nets, api.Net{In: nets[i].In, Layers: append(slices.Clone(nets[i].Layers), l)})
		}
	}
	seen := map[string]bool{}
	for _, n := range nets {
		s := Print(n)
		wantText(t, n, s)
		if seen[s] {
			t.Errorf("%q is the text of two", s)
		}
		seen[s] = true
		if strings.Count(s, "\n") != len(n.Layers)+1 || !strings.HasSuffix(s, "\n") {
			t.Errorf("%q: not one line for In and for each layer", s)
		}
	}
}

// P3: a network that is handed in stays, with its spare room, whether it has a form or not.
func TestArgumentsStay(t *testing.T) {
	room := []api.Layer{{Kind: api.Conv, Out: 4, Size: 5, Step: 6}, {Kind: api.Pool, Size: 2}, {Kind: api.Square, Out: 1}, {Kind: 9, Out: 9, Size: 9, Step: 9}}
	kept := slices.Clone(room)
	for many := range len(room) + 1 {
		n := api.Net{In: api.Shape{C: 1, H: 2, W: 3}, Layers: room[:many]}
		Form(n)
		Print(n)
		if !slices.Equal(room, kept) {
			t.Fatalf("%v, not %v", room, kept)
		}
	}
}

// P3: layers that come out are new memory, with their spare room, at each call.
func TestAnswersAreNew(t *testing.T) {
	s := "in 1 2 3\nconv 4 5 6\nsquare\npool 7\ndense 8\nsquare\n"
	a, _, _ := Parse(s)
	b, _, _ := Parse(s)
	for room, i := a.Layers[:cap(a.Layers)], 0; i < len(room); i++ {
		room[i] = api.Layer{Kind: -1}
	}
	wantText(t, b, s)
	c, _, _ := Parse(s)
	wantText(t, c, s)
	for _, l := range b.Layers[len(b.Layers):cap(b.Layers)] {
		if l.Kind == -1 {
			t.Error("spare room is shared")
		}
	}
}

// P3: what was called ahead does not matter, nor does a wrong text among right ones.
func TestNothingIsKept(t *testing.T) {
	right := "in 1 2 3\nconv 4 5 6\n"
	want, _, _ := Parse(right)
	for _, s := range []string{"", "x", "in 9 9 9\nconv 9 9 9\nx\n", "in 9 9 9\n" + strings.Repeat("pool 9\n", 20), "in 9 9 9\npool 9\n"} {
		Parse(s)
		if n, at, e := Parse(right); !same(n, want) || at != 0 || e != api.OK {
			t.Errorf("behind %q: %v, %d, %d", s, n, at, e)
		}
	}
}

// P1: texts that are long end, too.
func TestLongTexts(t *testing.T) {
	wantWrong(t, strings.Repeat("\n", 1<<16), 1, api.ErrForm)
	wantWrong(t, strings.Repeat("in 1 2 3\n", 1<<16), 2, api.ErrForm)
	wantWrong(t, "in 1 2 3\n"+strings.Repeat("square\n", 1<<16), api.MaxLayers+2, api.ErrFull)
	wantWrong(t, "in 1 2 "+strings.Repeat("3", 1<<16)+"\n", 1, api.ErrForm)
	wantWrong(t, "in 1 2 3\npool"+strings.Repeat(" 3", 1<<16)+"\n", 2, api.ErrForm)
}
