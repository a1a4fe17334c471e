package text

import (
	"fmt"
	"math"
	"regexp"
	"slices"
	"strings"
	"testing"
	"unsafe"
)

// texts are all texts of at most long of these pieces, one behind the other, the empty one among them.
func texts(long int, pieces ...string) []string {
	all := []string{""}
	from := 0
	for range long {
		to := len(all)
		for _, s := range all[from:to] {
			for _, p := range pieces {
				all = append(all, s+p)
			}
		}
		from = to
	}
	return all
}

// odd are pieces of texts: blanks, line feeds, runes of several bytes, and bytes of 128 and above that make no rune.
func odd() []string {
	return []string{"a", "0", " ", "\n", "A", "é", "\xff", "\xc3", "\xa9"}
}

// sameList tells whether l is want, and what stands there if not.
func sameList(t *testing.T, of string, l, want []string) {
	t.Helper()
	if !slices.Equal(l, want) {
		t.Errorf("%s: %q, not %q", of, l, want)
	}
}

// wantGet holds what Get makes of s against a number, or against none if that is below 0.
func wantGet(t *testing.T, s string, want int) {
	t.Helper()
	n, is := Get(s)
	if want < 0 && (n != 0 || is) || want >= 0 && (n != want || !is) {
		t.Errorf("Get(%q): %d, %t, not %d", s, n, is, want)
	}
}

// wantWords holds what Words makes of s against words, or against none if there are none.
func wantWords(t *testing.T, s string, want ...string) {
	t.Helper()
	l, is := Words(s)
	if is != (len(want) > 0) {
		t.Errorf("Words(%q): %t", s, is)
	}
	sameList(t, fmt.Sprintf("Words(%q)", s), l, want)
}

// P3.1 (C1): both limits and just beyond them, and far below and above.
func TestNumber(t *testing.T) {
	for n, want := range map[int]string{
		0: "0", 1: "1", 9: "9", 10: "10", 11: "11", 99: "99", 100: "100", 101: "101", 1000: "1000",
		12345: "12345", 90807: "90807", 100000: "100000", 999998: "999998", 999999: "999999",
		1000000: "", 1000001: "", 9999999: "", -1: "", -7: "", -10: "", -999999: "",
		1 << 20: "", 1 << 31: "", 1 << 32: "", 1<<32 + 7: "", 1 << 62: "", math.MaxInt: "", math.MaxInt - 1: "",
		math.MinInt: "", math.MinInt + 1: "", -1 << 32: "", -1<<32 + 7: "",
	} {
		if got := Number(n); got != want {
			t.Errorf("Number(%d): %q, not %q", n, got, want)
		}
	}
}

// P3.1 (C1), P2: texts that are a number's, and texts that are none; beside false stands 0.
func TestGet(t *testing.T) {
	for s, want := range map[string]int{"0": 0, "1": 1, "9": 9, "10": 10, "70": 70, "100": 100, "90807": 90807, "100000": 100000, "999998": 999998, "999999": 999999} {
		wantGet(t, s, want)
	}
	for _, s := range []string{
		"", "00", "000", "01", "07", "007", "0999999", "000000", "0000000", "0100000",
		"+", "-", "+0", "-0", "+5", "-5", "-1", "--5", "5-", "5+", "1+1",
		" ", " 5", "5 ", "5 5", "1 000", "\t5", "5\n", "\n5", "5\r",
		"1000000", "1000001", "9999999", "10000000", "99999999999999999999", "999999999999999999999999999999",
		// Numbers that go round at 2^64, 2^63 and 2^32 to small ones.
		"18446744073709551616", "18446744073709551623", "9223372036854775808", "4294967296", "4294967303", "36893488147419103239",
		"a", "x7", "7x", "0x7", "0b1", "0o7", "1_000", "1,000", "1.0", "1e3", "5.", ".5", "NaN", "/", ":", "0:", "1/",
		"\x00", "5\x00", "\x005", "\xff", "5\xff", "\x80", "é", "5é", "٥", "５", "\u00b2", "\ufffd", "\U0010ffff",
		strings.Repeat("0", 1000), strings.Repeat("9", 1000), strings.Repeat("1", 7), "1" + strings.Repeat("0", 64), strings.Repeat("0", 64) + "5",
	} {
		wantGet(t, s, -1)
	}
}

// P3.1 (C1): all short texts, held against what a pattern tells of a number's text; those which two runes make the number of another text are among them.
func TestGetOfAllShortTexts(t *testing.T) {
	right := regexp.MustCompile(`\A(?:0|[1-9][0-9]{0,5})\z`)
	for _, s := range texts(4, "0", "1", "9", "/", ":", "+", "-", " ", "a", "\x00", "\xff", "é") {
		want := -1
		if right.MatchString(s) {
			want = 0
			for i := range len(s) {
				want = 10*want + strings.IndexByte("0123456789", s[i])
			}
		}
		wantGet(t, s, want)
	}
	for b := range 256 {
		one := string([]byte{byte(b)})
		wantGet(t, one, max(-1, strings.Index("0123456789", one)))
		if b < '0' || b > '9' {
			wantGet(t, "1"+one, -1)
			wantGet(t, one+"1", -1)
			wantGet(t, "1"+one+"1", -1)
		}
	}
}

// P3.2: each number is got back from its text, no two have one text, and it is the decimal one.
func TestNumbersThereAndBack(t *testing.T) {
	for n := range 1000000 {
		s := Number(n)
		if back, is := Get(s); back != n || !is {
			t.Fatalf("Get(Number(%d)): %d, %t", n, back, is)
		}
		if s != fmt.Sprint(n) {
			t.Fatalf("Number(%d): %q", n, s)
		}
	}
	for _, s := range texts(7, "0", "5", "9") {
		if n, is := Get(s); is && Number(n) != s {
			t.Errorf("Number(Get(%q)): %q", s, Number(n))
		}
	}
}

// P3.1 (C2): ordinary words, one and more.
func TestWords(t *testing.T) {
	wantWords(t, "a", "a")
	wantWords(t, "0", "0")
	wantWords(t, "a 07", "a", "07")
	wantWords(t, "a 07 zz9", "a", "07", "zz9")
	wantWords(t, "in 1 4 4", "in", "1", "4", "4")
	wantWords(t, "az09 09az z a", "az09", "09az", "z", "a")
	wantWords(t, "a a a", "a", "a", "a")
	long := strings.Repeat("abc0", 1000)
	wantWords(t, long, long)
	wantWords(t, long+" "+long, long, long)
}

// P3.1 (C2), P2: texts that are no words with one blank between each two; beside false stands none.
func TestNoWords(t *testing.T) {
	for _, s := range []string{
		"", " ", "  ", "   ", " a", "a ", " a ", "  a", "a  ", "a  b", "a   b", "a b  c", "a  b c", "a b ", " a b",
		"A", "a B", "Z", "aB", "a-b", "-", "a_b", "a.b", "a,b", "a/b", "+1", "-1", "a {", "` a",
		"a\tb", "a\nb", "a\rb", "a b\n", "\na b", "a\n", "\n", "\t", "a\x00", "\x00", "a \x00 b", "a\vb", "a\fb",
		"\xff", "a\xff", "\xffa", "a \xff", "\x80", "a\x80b", "\xc3", "a\xc3", "\xc3a", "\xc3 a", "a \xc3", "\xc3\xa9", "é", "aé", "é a", "a é b",
		"\u00a0", "a\u00a0b", "a\u2003b", "a\u3000b", "\u0661", "\uff41", "\uff11", "\ufffd", "\xe2\x82", "\xed\xa0\x80", "\xf4\x90\x80\x80",
		"\xc0\xa0", "a\xc0\xa0b", "\xc1\xa1", // a blank, and an a, in more bytes than they have
	} {
		wantWords(t, s)
	}
}

// P3.1 (C2): each byte, alone and beside ones that are a word's.
func TestEachByteOfWords(t *testing.T) {
	for b := range 256 {
		one := string([]byte{byte(b)})
		is := strings.Contains("abcdefghijklmnopqrstuvwxyz0123456789", one)
		for _, s := range []string{one, one + "a", "a" + one, "a" + one + "0", "a 0" + one, one + "a 0"} {
			if is {
				wantWords(t, s, strings.Split(s, " ")...)
			} else if s == "a"+one+"0" && b == 32 {
				wantWords(t, s, "a", "0")
			} else {
				wantWords(t, s)
			}
			if joined := Join([]string{s}); joined != "" != (is && !strings.Contains(s, " ")) {
				t.Errorf("Join of %q: %q", s, joined)
			}
		}
	}
}

// P3.1 (C2): runes whose lowest byte, or whose lowest 16 bits, are a word's.
func TestRunesThatLookLikeAWordsByte(t *testing.T) {
	for _, r := range []rune{'a', 'm', 'z', '0', '9', ' ', '\n'} {
		for _, far := range []rune{0x80, 0x100, 0x2100, 0x10000, 0x100000} {
			wantWords(t, string(r+far))
			wantWords(t, "a"+string(r+far)+"b")
			if joined := Join([]string{"a", string(r + far)}); joined != "" {
				t.Errorf("Join of a and %q: %q", r+far, joined)
			}
			wantGet(t, string(r+far), -1)
			l, rest := Lines(string(r + far))
			if len(l) != 0 || rest != string(r+far) {
				t.Errorf("Lines of %q: %q, %q", r+far, l, rest)
			}
		}
	}
}

// P3.1 (C2): lists of words, and lists among which one is none, or that are empty.
func TestJoin(t *testing.T) {
	for _, c := range []struct {
		want string
		l    []string
	}{
		{"a", []string{"a"}},
		{"0", []string{"0"}},
		{"a 07", []string{"a", "07"}},
		{"a 07 zz9", []string{"a", "07", "zz9"}},
		{"conv 2 3 1", []string{"conv", "2", "3", "1"}},
		{"a a a", []string{"a", "a", "a"}},
	} {
		if got := Join(c.l); got != c.want {
			t.Errorf("Join(%q): %q", c.l, got)
		}
	}
	for _, l := range [][]string{nil, {}, make([]string, 0, 5), {""}, {"", ""}, {"", "", ""}} {
		if got := Join(l); got != "" {
			t.Errorf("Join(%q): %q", l, got)
		}
	}
	for _, no := range []string{"", " ", "a b", " a", "a ", "A", "-1", "a\n", "\n", "\t", "\x00", "\xff", "a\xff", "\xc3", "é", "aé", "\ufffd", "\u0661", "\xc1\xa1", "`", "{", "/", ":"} {
		for _, l := range [][]string{{no}, {no, "a"}, {"a", no}, {"a", no, "b"}, {"a", "b", no}, {no, no}} {
			if got := Join(l); got != "" {
				t.Errorf("Join(%q): %q", l, got)
			}
		}
	}
}

// P3.1 (C2) and P3.2: all short texts, held against what a pattern tells; words are got back from their text, and it from them.
func TestWordsThereAndBack(t *testing.T) {
	right := regexp.MustCompile(`\A[a-z0-9]+(?: [a-z0-9]+)*\z`)
	many := 0
	for _, s := range texts(5, odd()...) {
		if !right.MatchString(s) {
			wantWords(t, s)
			continue
		}
		many++
		wantWords(t, s, strings.Split(s, " ")...)
		l, _ := Words(s)
		if got := Join(l); got != s {
			t.Errorf("Join(Words(%q)): %q", s, got)
		}
	}
	if many == 0 {
		t.Error("no text was one of words")
	}
}

// P3.1 (C2) and P3.2: all short lists, of words and of such that are none; Join answers the text whose Words they are, or an empty one, which has none.
func TestListsThereAndBack(t *testing.T) {
	right := regexp.MustCompile(`\A[a-z0-9]+\z`)
	lists := [][]string{nil}
	for i := 0; i < len(lists) && len(lists[i]) < 4; i++ {
		for _, w := range []string{"a", "07", "zz9", "", " ", "a b", "A", "\n", "é", "\xff"} {
			lists = append(lists, append(slices.Clone(lists[i]), w))
		}
	}
	for _, l := range lists {
		are := len(l) > 0 && !slices.ContainsFunc(l, func(w string) bool { return !right.MatchString(w) })
		s := Join(l)
		if are != (s != "") {
			t.Errorf("Join(%q): %q", l, s)
		}
		if are {
			wantWords(t, s, l...)
		} else {
			wantWords(t, s)
		}
	}
}

// P3.1 (C3): no line feed, line feeds alone, at the front, at the end, in a row.
func TestLines(t *testing.T) {
	for _, c := range []struct {
		s    string
		want []string
		rest string
	}{
		{"", nil, ""},
		{"a", nil, "a"},
		{"a b", nil, "a b"},
		{" ", nil, " "},
		{"\n", []string{""}, ""},
		{"\n\n", []string{"", ""}, ""},
		{"\n\n\n", []string{"", "", ""}, ""},
		{"a\n", []string{"a"}, ""},
		{"\na", []string{""}, "a"},
		{"\na\n", []string{"", "a"}, ""},
		{"a\nb", []string{"a"}, "b"},
		{"a\nb\n", []string{"a", "b"}, ""},
		{"a\n\nb", []string{"a", ""}, "b"},
		{"a\n\n\nb\n", []string{"a", "", "", "b"}, ""},
		{"a\n\n", []string{"a", ""}, ""},
		{"in 1 4 4\nconv 2 3 1\nrest", []string{"in 1 4 4", "conv 2 3 1"}, "rest"},
		{" a \n b ", []string{" a "}, " b "},
		{"a\r\nb\r", []string{"a\r"}, "b\r"},
		{"a\rb\vc\fd\x85e\u0085f\u2028g", nil, "a\rb\vc\fd\x85e\u0085f\u2028g"},
		{"\x00\n\x00", []string{"\x00"}, "\x00"},
		{"é\n\xff\n\xc3", []string{"é", "\xff"}, "\xc3"},
		{"\xc3\n\xa9", []string{"\xc3"}, "\xa9"},
		{"\xe2\x82\n\xac\n", []string{"\xe2\x82", "\xac"}, ""},
		{"\xf0\n\n", []string{"\xf0", ""}, ""},
		{"\xc0\x8a\n\xc0\x8a", []string{"\xc0\x8a"}, "\xc0\x8a"}, // a line feed in more bytes than it has
		{"\ufffd\n\U0010ffff", []string{"\ufffd"}, "\U0010ffff"},
	} {
		l, rest := Lines(c.s)
		sameList(t, fmt.Sprintf("Lines(%q)", c.s), l, c.want)
		if rest != c.rest {
			t.Errorf("Lines(%q): behind them %q, not %q", c.s, rest, c.rest)
		}
	}
	for b := range 256 {
		s := "a" + string([]byte{byte(b)}) + "b"
		if l, rest := Lines(s); (len(l) > 0) != (b == 10) || len(l) == 0 && rest != s {
			t.Errorf("Lines(%q): %q, %q", s, l, rest)
		}
	}
}

// P3.1 (C3): all of a list, each with a line feed behind it, whatever stands in it.
func TestText(t *testing.T) {
	for _, c := range []struct {
		want string
		l    []string
	}{
		{"", nil},
		{"", []string{}},
		{"\n", []string{""}},
		{"\n\n", []string{"", ""}},
		{"a\n", []string{"a"}},
		{"a\nb\n", []string{"a", "b"}},
		{"\na\n\n", []string{"", "a", ""}},
		{" a \n b c\n", []string{" a ", " b c"}},
		{"a\nb\n\n\n", []string{"a\nb", "\n"}},
		{"\xff\n\xc3\n\xa9\né\n\x00\n", []string{"\xff", "\xc3", "\xa9", "é", "\x00"}},
		{"A-\r\n", []string{"A-\r"}},
	} {
		if got := Text(c.l); got != c.want {
			t.Errorf("Text(%q): %q, not %q", c.l, got, c.want)
		}
	}
}

// P3.1 (C3) and P3.2: all short texts; lines, and what stands behind them, are the text once more.
func TestTextsThereAndBack(t *testing.T) {
	for _, s := range texts(5, odd()...) {
		l, rest := Lines(s)
		pieces := strings.Split(s, "\n")
		sameList(t, fmt.Sprintf("Lines(%q)", s), l, pieces[:len(pieces)-1])
		if rest != pieces[len(pieces)-1] {
			t.Errorf("Lines(%q): behind them %q", s, rest)
		}
		if back := Text(l) + rest; back != s {
			t.Errorf("Text(Lines(%q)): %q", s, back)
		}
	}
}

// P3.2: lines are got back from their text, with nothing behind them, and with what was laid behind them.
func TestLinesThereAndBack(t *testing.T) {
	lists := [][]string{nil}
	for i := 0; i < len(lists) && len(lists[i]) < 4; i++ {
		for _, w := range []string{"", "a", " a  07 ", "é", "\xff", "\xc3", "\xa9"} {
			lists = append(lists, append(slices.Clone(lists[i]), w))
		}
	}
	for _, l := range lists {
		for _, behind := range []string{"", "b", " ", "\xc3"} {
			back, rest := Lines(Text(l) + behind)
			sameList(t, fmt.Sprintf("Lines(Text(%q))", l), back, l)
			if rest != behind {
				t.Errorf("Lines(Text(%q)+%q): behind them %q", l, behind, rest)
			}
		}
	}
}

// P3: a list that is handed in stays, with its spare room.
func TestArgumentsStay(t *testing.T) {
	for _, l := range [][]string{{"a", "07", "x", "y"}, {"a", "", "x", "y"}, {"a\n", "B", "x", "y"}} {
		for many := range 3 {
			kept := slices.Clone(l)
			Join(l[:many])
			Text(l[:many])
			sameList(t, "what was handed in", l, kept)
		}
	}
}

// P3: lists that come out are new memory, with their spare room: to write in one is not seen in another, nor in what is answered later.
func TestAnswersAreNew(t *testing.T) {
	for name, call := range map[string]func() []string{
		"Words": func() []string { l, _ := Words("a b c d e"); return l },
		"Lines": func() []string { l, _ := Lines("a\nb\nc\nd\ne\n"); return l },
	} {
		one, two := call(), call()
		for i := range one[:cap(one)] {
			one[:cap(one)][i] = "x"
		}
		sameList(t, name, two, []string{"a", "b", "c", "d", "e"})
		sameList(t, name, call(), []string{"a", "b", "c", "d", "e"})
	}
}

// P3: what comes out shares no bytes with what was handed in.
func TestAnswersShareNothing(t *testing.T) {
	for _, s := range []string{"a", "a b", "ab\ncd\nef", "ab\n"} {
		bytes := []byte(s)
		given := unsafe.String(&bytes[0], len(bytes))
		words, _ := Words(given)
		lines, rest := Lines(given)
		joined, laid := Join([]string{given}), Text([]string{given})
		got := fmt.Sprintf("%q", []any{words, lines, rest, joined, laid})
		for i := range bytes {
			bytes[i] = '#'
		}
		if now := fmt.Sprintf("%q", []any{words, lines, rest, joined, laid}); now != got {
			t.Errorf("of %q: %s was %s", s, now, got)
		}
	}
}

// P1, P3: long texts and lists; the same comes of them as often as they are asked for.
func TestLong(t *testing.T) {
	many := 100000
	l := make([]string, many)
	for i := range l {
		l[i] = Number(i)
	}
	for range 2 {
		words, is := Words(Join(l))
		if !is || !slices.Equal(words, l) {
			t.Error("long words are not got back")
		}
		lines, rest := Lines(Text(l))
		if rest != "" || !slices.Equal(lines, l) {
			t.Error("long lines are not got back")
		}
	}
	wantWords(t, strings.Repeat(" ", many))
	wantWords(t, strings.Repeat("a ", many))
	if lines, rest := Lines(strings.Repeat("\n", many)); len(lines) != many || rest != "" {
		t.Errorf("%d line feeds are %d lines and %q", many, len(lines), rest)
	}
}
