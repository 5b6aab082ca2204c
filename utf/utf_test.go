package utf

import (
	"math"
	"strings"
	"testing"
	"unicode/utf8"

	"quillpen/api"
)

type span struct{ low, high byte }

// The chapter's list of the sequences, row by row: which bytes stand at which place.
var sequences = [][]span{
	{{0x00, 0x7f}},
	{{0xc2, 0xdf}, {0x80, 0xbf}},
	{{0xe0, 0xe0}, {0xa0, 0xbf}, {0x80, 0xbf}},
	{{0xe1, 0xec}, {0x80, 0xbf}, {0x80, 0xbf}},
	{{0xee, 0xef}, {0x80, 0xbf}, {0x80, 0xbf}},
	{{0xed, 0xed}, {0x80, 0x9f}, {0x80, 0xbf}},
	{{0xf0, 0xf0}, {0x90, 0xbf}, {0x80, 0xbf}, {0x80, 0xbf}},
	{{0xf1, 0xf3}, {0x80, 0xbf}, {0x80, 0xbf}, {0x80, 0xbf}},
	{{0xf4, 0xf4}, {0x80, 0x8f}, {0x80, 0xbf}, {0x80, 0xbf}},
}

// The chapter's list of the states: what must come in each.
var states = [][]span{
	0: nil,
	1: {{0x80, 0xbf}},
	2: {{0x80, 0xbf}, {0x80, 0xbf}},
	3: {{0x80, 0xbf}, {0x80, 0xbf}, {0x80, 0xbf}},
	4: {{0xa0, 0xbf}, {0x80, 0xbf}},
	5: {{0x80, 0x9f}, {0x80, 0xbf}},
	6: {{0x90, 0xbf}, {0x80, 0xbf}, {0x80, 0xbf}},
	7: {{0x80, 0x8f}, {0x80, 0xbf}, {0x80, 0xbf}},
}

// Bytes at the edges of the spans, and beside them.
const edges = "\x00a\x7f\x80\x8f\x90\x9f\xa0\xbf\xc0\xc1\xc2\xdf\xe0\xe1\xec\xed\xee\xef\xf0\xf1\xf3\xf4\xf5\xff"

func equalSpans(a, b []span) bool {
	if len(a) != len(b) {
		return false
	}
	for i := range a {
		if a[i] != b[i] {
			return false
		}
	}
	return true
}

// stateOf is the number of what must come.
func stateOf(t *testing.T, rest []span) int {
	for i, s := range states {
		if equalSpans(s, rest) {
			return i
		}
	}
	t.Fatal("no state for", rest)
	return 0
}

// wantStep takes a byte by the lists alone.
func wantStep(t *testing.T, state int, b byte) (int, bool) {
	rests := [][]span{states[state]}
	if state == 0 {
		rests = sequences
	}
	for _, r := range rests {
		if b >= r[0].low && b <= r[0].high {
			return stateOf(t, r[1:]), true
		}
	}
	return 0, false
}

// told is all that is to be told about a text: the oracle's word.
type told struct {
	fault   api.Fault
	longest int
	state   int
	n       int
}

// wantTold finds the whole characters by the library, and the rest by what could still be put behind it.
func wantTold(s string) told {
	var w told
	for w.longest < len(s) {
		r, size := utf8.DecodeRuneInString(s[w.longest:])
		if r == utf8.RuneError && size < 2 {
			break
		}
		w.longest += size
	}
	w.n = w.longest
	for w.n < len(s) && mayGrow(s[w.longest:w.n+1]) {
		w.n++
	}
	if w.n < len(s) {
		w.fault = api.Fault{Kind: api.ErrUtf8, At: w.n}
	} else if w.n > w.longest {
		w.fault = api.Fault{Kind: api.ErrCut, At: w.n}
	}
	w.state = growth(s[w.longest:w.n])
	return w
}

// endings are, for each state, what makes a text of it whole; a state takes its own two and not both of any other state as long.
var endings = [][2]string{
	1: {"\x80", "\xbf"},
	2: {"\x80\x80", "\xbf\xbf"},
	3: {"\x80\x80\x80", "\xbf\xbf\xbf"},
	4: {"\xa0\x80", "\xbf\xbf"},
	5: {"\x80\x80", "\x9f\xbf"},
	6: {"\x90\x80\x80", "\xbf\xbf\xbf"},
	7: {"\x80\x80\x80", "\x8f\xbf\xbf"},
}

func mayGrow(s string) bool {
	return growth(s) != 0
}

// growth is the state behind a beginning of a sequence, found by what makes it whole: the state that is least choosy is asked first.
func growth(s string) int {
	if s == "" {
		return 0
	}
	for _, state := range []int{1, 2, 3, 4, 5, 6, 7} {
		if utf8.ValidString(s+endings[state][0]) && utf8.ValidString(s+endings[state][1]) {
			return state
		}
	}
	return 0
}

func checkTold(t *testing.T, s string) {
	t.Helper()
	w := wantTold(s)
	if f := Bad(s); f != w.fault {
		t.Fatalf("Bad(%q) = %v, want %v", s, f, w.fault)
	}
	if n := Longest(s); n != w.longest {
		t.Fatalf("Longest(%q) = %d, want %d", s, n, w.longest)
	}
	if v := Valid(s); v != utf8.ValidString(s) {
		t.Fatalf("Valid(%q) = %v", s, v)
	}
	if state, n := Run(0, s); state != w.state || n != w.n {
		t.Fatalf("Run(0, %q) = %d, %d; want %d, %d", s, state, n, w.state, w.n)
	}
}

// eachText hands on all texts of these bytes, as long as is asked for.
func eachText(bytes string, long int, see func(s string)) {
	text := make([]byte, long)
	var fill func(i int)
	fill = func(i int) {
		if i == long {
			see(string(text))
			return
		}
		for _, b := range []byte(bytes) {
			text[i] = b
			fill(i + 1)
		}
	}
	fill(0)
}

func allBytes() string {
	var b strings.Builder
	for i := range 256 {
		b.WriteByte(byte(i))
	}
	return b.String()
}

// P2.1: Step, in every state, at every byte.
func TestStep(t *testing.T) {
	for state := range 8 {
		for i := range 256 {
			b := byte(i)
			want, wantOK := wantStep(t, state, b)
			if next, ok := Step(state, b); next != want || ok != wantOK {
				t.Errorf("Step(%d, %x) = %d, %v; want %d, %v", state, b, next, ok, want, wantOK)
			}
		}
	}
}

// P2.1: Run, from every state, over texts of two and three bytes, as Step goes.
func TestRunFromEachState(t *testing.T) {
	for state := range 8 {
		for long := range 4 {
			eachText(edges, long, func(s string) {
				want, n := state, 0
				for n < len(s) {
					next, ok := wantStep(t, want, s[n])
					if !ok {
						break
					}
					want, n = next, n+1
				}
				if got, m := Run(state, s); got != want || m != n {
					t.Fatalf("Run(%d, %q) = %d, %d; want %d, %d", state, s, got, m, want, n)
				}
			})
		}
	}
}

// P2.1: all texts of up to two bytes.
func TestShortTexts(t *testing.T) {
	for long := range 3 {
		eachText(allBytes(), long, func(s string) { checkTold(t, s) })
	}
}

// P2.1: texts of bytes at the edges of the spans, long enough for each sequence.
func TestEdgeTexts(t *testing.T) {
	eachText(edges, 3, func(s string) { checkTold(t, s) })
	eachText(edges, 4, func(s string) { checkTold(t, s) })
}

// P2.1: every character there is, whole, cut at each place, and with a wrong byte behind each cut.
func TestEachCharacter(t *testing.T) {
	for r := range rune(utf8.MaxRune + 1) {
		if !utf8.ValidRune(r) {
			continue
		}
		s := string(r)
		if !Valid(s) || Longest(s) != len(s) {
			t.Fatalf("%q is told as not well formed", s)
		}
		for i := 1; i < len(s); i++ {
			if f := Bad("a" + s[:i]); f != (api.Fault{Kind: api.ErrCut, At: 1 + i}) {
				t.Fatalf("Bad(a%q) = %v", s[:i], f)
			}
			if f := Bad("a" + s[:i] + "a"); f != (api.Fault{Kind: api.ErrUtf8, At: 1 + i}) {
				t.Fatalf("Bad(a%qa) = %v", s[:i], f)
			}
			if n := Longest("a" + s[:i] + "a"); n != 1 {
				t.Fatalf("Longest(a%qa) = %d", s[:i], n)
			}
		}
	}
}

// P2.1: long texts, whole ones and ones that go wrong late.
func TestLongTexts(t *testing.T) {
	long := strings.Repeat("aä€😀", 5000)
	for _, tail := range []string{"", "\xf0", "\xf0\x90\x80", "\xe2\x82", "\xe2\x82(", "\x80", "\xff", "\xed\xa0\x80", "\xf4\x90\x80\x80", "\xe0\x80\x80", "\xc0\x80", "\x80\x80\x80\x80\x80\x80"} {
		checkTold(t, long+tail)
		checkTold(t, long+tail+long)
	}
}

// P2.1: the chapter's examples.
func TestExamples(t *testing.T) {
	state := 0
	for i, want := range []int{2, 1, 0} {
		var ok bool
		if state, ok = Step(state, "\xe2\x82\xac"[i]); state != want || !ok {
			t.Error(i, state, ok)
		}
	}
	if f := Bad("\xe2("); f != (api.Fault{Kind: api.ErrUtf8, At: 1}) {
		t.Error(f)
	}
	if f := Bad(""); f != (api.Fault{}) || !Valid("") || Longest("") != 0 {
		t.Error("the empty text", f)
	}
}

// P1: what is no state doesn't panic, and nothing goes on behind it.
func TestNoState(t *testing.T) {
	for _, state := range []int{-1, 8, 9, 256, 1 << 32, math.MaxInt, math.MinInt} {
		for i := range 256 {
			if next, ok := Step(state, byte(i)); next != 0 || ok {
				t.Fatal(state, i, next, ok)
			}
		}
		if next, n := Run(state, "a\x80"); next != 0 || n != 0 {
			t.Error(state, next, n)
		}
		if next, n := Run(state, ""); next != 0 || n != 0 {
			t.Error(state, next, n)
		}
	}
}

// checkPieces holds P2.2: a text, parted at any place, is told as at once.
func checkPieces(t *testing.T, s string) {
	t.Helper()
	atOnce, all := Run(0, s)
	for cut := range len(s) + 1 {
		state, n := Run(0, s[:cut])
		if n == cut {
			var m int
			state, m = Run(state, s[cut:])
			n += m
		}
		if state != atOnce || n != all {
			t.Fatalf("%q, %q: %d, %d; at once %d, %d", s[:cut], s[cut:], state, n, atOnce, all)
		}
	}
}

// P2.2: each text of four bytes at the edges, and longer ones, in two pieces.
func TestPieces(t *testing.T) {
	for long := range 5 {
		eachText(edges, long, func(s string) { checkPieces(t, s) })
	}
	for _, s := range []string{"aä€😀aä€😀", "😀😀\xf0\x9f", "€€\xe2\x82(€", "\xef\xbb\xbfa\xff"} {
		checkPieces(t, s)
	}
}

func FuzzTold(f *testing.F) {
	for _, s := range []string{"", "aä€😀", "\xe2\x82(", "ab\xed\xa0\x80", "\xf0\x90\x80"} {
		f.Add(s)
	}
	f.Fuzz(func(t *testing.T, s string) {
		checkTold(t, s)
		checkPieces(t, s)
	})
}
