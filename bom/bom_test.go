package bom

import (
	"bytes"
	"slices"
	"strings"
	"testing"
)

// Bytes of the mark, one beside each of them, and ones that have nothing to do with it.
const someBytes = "\xef\xbb\xbf\xee\xbc\xfea\x00"

// want is what is to be told, once a text has come and nothing behind it.
type want struct {
	on       string
	held     int
	stripped bool
}

// wanted holds the chapter's words against a text: the mark is dropped, what may be its beginning is kept back, all else is handed on.
func wanted(text string) want {
	switch {
	case text == "", text == "\xef", text == "\xef\xbb":
		return want{held: len(text)}
	case len(text) >= 3 && text[0] == 0xef && text[1] == 0xbb && text[2] == 0xbf:
		return want{on: text[3:], stripped: true}
	}
	return want{on: text}
}

// feeder is a stripper, and all that went in and came out of it.
type feeder struct {
	t       *testing.T
	s       *Stripper
	in, out string
}

func newFeeder(t *testing.T) *feeder {
	return &feeder{t: t, s: New()}
}

func (f *feeder) check() {
	f.t.Helper()
	w := wanted(f.in)
	if f.out != w.on || f.s.Held() != w.held || f.s.Stripped() != w.stripped {
		f.t.Fatalf("%q: %q, held %d, stripped %v; want %v", f.in, f.out, f.s.Held(), f.s.Stripped(), w)
	}
}

// feed hands in a piece, and writes over it and over the answer, so that what is kept or shared is seen.
func (f *feeder) feed(piece string) {
	f.t.Helper()
	b := []byte(piece)
	got := f.s.Feed(b)
	if string(b) != piece {
		f.t.Fatalf("%q: the piece %q is written into", f.in, piece)
	}
	overwrite(b)
	f.in += piece
	f.out += string(got)
	overwrite(got)
	if len(got) == 0 && got != nil {
		f.t.Fatalf("%q: nothing is told as empty bytes", f.in)
	}
	f.check()
}

// close ends the text, and asks that nothing comes any more, whatever is handed in.
func (f *feeder) close() {
	f.t.Helper()
	w := wanted(f.in)
	last := f.s.Close()
	if string(last) != f.in[:w.held] {
		f.t.Fatalf("%q: Close = %q", f.in, last)
	}
	f.out += string(last)
	overwrite(last)
	if on, had := Strip(f.in); f.out != on || had != w.stripped {
		f.t.Fatalf("%q: %q; Strip = %q, %v", f.in, f.out, on, had)
	}
	for _, b := range [][]byte{nil, {}, []byte("a"), []byte("\xef"), []byte("\xef\xbb\xbf"), []byte("\xbb\xbf"), []byte("\xbf")} {
		if got := f.s.Feed(b); got != nil {
			f.t.Fatalf("%q: behind Close, %q comes of %q", f.in, got, b)
		}
		if f.s.Held() != 0 || f.s.Stripped() != w.stripped {
			f.t.Fatalf("%q: behind Close and %q: held %d, stripped %v", f.in, b, f.s.Held(), f.s.Stripped())
		}
		if got := f.s.Close(); got != nil {
			f.t.Fatalf("%q: %q comes of another Close", f.in, got)
		}
	}
}

func overwrite(b []byte) {
	for i := range b {
		b[i] = '!'
	}
}

// eachText hands on all texts of these bytes, as long as is asked for.
func eachText(bytes string, long int, see func(s string)) {
	text := make([]byte, long)
	var fill func(i int)
	fill = func(i int) {
		if i == long {
			see(string(text))
			return
		}
		for _, b := range []byte(bytes) {
			text[i] = b
			fill(i + 1)
		}
	}
	fill(0)
}

// checkCuts feeds a text in all ways to cut it: each bit of a number is a place to cut at, or not.
func checkCuts(t *testing.T, text string) {
	t.Helper()
	for cuts := range 1 << max(0, len(text)-1) {
		f := newFeeder(t)
		f.check()
		from := 0
		for i := 1; i <= len(text); i++ {
			if i == len(text) || cuts>>(i-1)&1 == 1 {
				f.feed(text[from:i])
				from = i
			}
		}
		f.close()
	}
}

// checkStrip holds Strip against the chapter's words; what it is handed is whole, so nothing is kept back.
func checkStrip(t *testing.T, text string) {
	t.Helper()
	w := wanted(text)
	if got, had := Strip(text); got != w.on+text[:w.held] || had != w.stripped {
		t.Fatalf("Strip(%q) = %q, %v", text, got, had)
	}
}

// P3.1: Strip, of texts with the mark, without it, and with what only looks like it.
func TestStrip(t *testing.T) {
	for long := range 6 {
		eachText(someBytes, long, func(s string) { checkStrip(t, s) })
	}
	for text, on := range map[string]string{
		"":                                     "",
		"a":                                    "a",
		"\xef":                                 "\xef",
		"\xef\xbb":                             "\xef\xbb",
		"\xef\xbb\xbf":                         "",
		"\xef\xbb\xbfa,b\n":                    "a,b\n",
		"\xef\xbb\xbf\xef\xbb\xbf":             "\xef\xbb\xbf",
		"\xef\xbb\xbf\xef\xbb\xbf\xef\xbb\xbf": "\xef\xbb\xbf\xef\xbb\xbf",
		"a\xef\xbb\xbf":                        "a\xef\xbb\xbf",
		"\xef\xef\xbb\xbf":                     "\xef\xef\xbb\xbf",
		"\xef\xbb\xef\xbb\xbf":                 "\xef\xbb\xef\xbb\xbf",
		"\xfe\xffa":                            "\xfe\xffa",
		"\xbf\xbb\xef":                         "\xbf\xbb\xef",
		"\"\xef\xbb\xbf\"":                     "\"\xef\xbb\xbf\"",
	} {
		if got, had := Strip(text); got != on || had != (len(on) < len(text)) {
			t.Errorf("Strip(%q) = %q, %v", text, got, had)
		}
	}
}

// P3.1: each byte there is, at each place of the mark.
func TestEachByte(t *testing.T) {
	for i := range 256 {
		b := string([]byte{byte(i)})
		for _, ahead := range []string{"", "\xef", "\xef\xbb", "\xef\xbb\xbf"} {
			checkStrip(t, ahead+b)
			checkCuts(t, ahead+b)
			checkCuts(t, ahead+b+"\xbb\xbf")
		}
	}
}

// P3.1: all short texts of some bytes, in all ways to cut them, each told of as soon as it can be.
func TestCuts(t *testing.T) {
	for long := range 6 {
		eachText(someBytes, long, func(s string) { checkCuts(t, s) })
	}
	eachText("\xef\xbb\xbf", 7, func(s string) { checkCuts(t, s) })
	checkCuts(t, "\xef\xbb\xbfa,\"b\"\n\xef\xbb")
}

// P3.1: pieces without bytes, among the others and ahead of them, change nothing.
func TestEmptyPieces(t *testing.T) {
	for _, text := range []string{"", "a", "\xef\xbb", "\xef\xbba", "\xef\xbb\xbf", "\xef\xbb\xbfa\xef\xbb\xbf"} {
		f := newFeeder(t)
		for i := range text {
			f.feed("")
			if got := f.s.Feed(nil); got != nil {
				t.Fatalf("%q comes of nil", got)
			}
			f.check()
			f.feed(text[i : i+1])
		}
		f.feed("")
		f.close()
	}
}

// P3.1: only what may be a beginning of the mark is kept back, and the mark's own bytes aren't.
func TestHeld(t *testing.T) {
	s := New()
	for i, c := range []struct {
		piece, on string
		held      int
		stripped  bool
	}{
		{"", "", 0, false},
		{"\xef", "", 1, false},
		{"", "", 1, false},
		{"\xbb", "", 2, false},
		{"\xbf", "", 0, true},
		{"\xef", "\xef", 0, true},
		{"\xbb\xbf", "\xbb\xbf", 0, true},
	} {
		if on := string(s.Feed([]byte(c.piece))); on != c.on || s.Held() != c.held || s.Stripped() != c.stripped {
			t.Errorf("piece %d: %q, %d, %v", i, on, s.Held(), s.Stripped())
		}
	}
}

// P3.1: a text that ends within the mark is handed on at Close, once.
func TestClose(t *testing.T) {
	for _, text := range []string{"", "\xef", "\xef\xbb"} {
		s := New()
		if on := s.Feed([]byte(text)); on != nil || s.Held() != len(text) {
			t.Errorf("%q: %q, %d", text, on, s.Held())
		}
		if on := string(s.Close()); on != text || s.Held() != 0 || s.Stripped() {
			t.Errorf("%q: Close = %q, held %d", text, on, s.Held())
		}
		if on := s.Feed([]byte("\xef\xbb\xbfa")); on != nil || s.Held() != 0 || s.Stripped() {
			t.Errorf("%q: behind Close comes %q", text, on)
		}
		if on := s.Close(); on != nil {
			t.Errorf("%q: Close again = %q", text, on)
		}
	}
	// What the mark would have gone on with is nothing, behind Close.
	s := New()
	s.Feed([]byte("\xef\xbb"))
	s.Close()
	if on := s.Feed([]byte("\xbf")); on != nil || s.Stripped() {
		t.Errorf("%q, %v", on, s.Stripped())
	}
}

// P3.1: the chapter's example.
func TestExample(t *testing.T) {
	s := New()
	for i, on := range []string{"", "", "\xef\xbb\x41"} {
		if got := string(s.Feed([]byte{"\xef\xbb\x41"[i]})); got != on {
			t.Errorf("piece %d: %q", i, got)
		}
	}
}

// P3.1: two strippers have nothing to do with each other.
func TestTwo(t *testing.T) {
	a, b := New(), New()
	a.Feed([]byte("\xef\xbb"))
	if b.Held() != 0 || string(b.Feed([]byte("\xbf"))) != "\xbf" {
		t.Error("the second one knows of the first one's bytes")
	}
	if a.Feed([]byte("\xbf")); !a.Stripped() || b.Stripped() {
		t.Error(a.Stripped(), b.Stripped())
	}
}

// P3.1: an answer shares no memory with its piece, nor with another answer, not even behind its end.
func TestMemory(t *testing.T) {
	for _, ahead := range []string{"", "\xef", "\xef\xbb", "\xef\xbb\xbf", "a"} {
		s := New()
		s.Feed([]byte(ahead))
		piece := append(make([]byte, 0, 64), "\xbbone"...)
		first := s.Feed(piece)
		was := slices.Clone(first)
		overwrite(piece[:cap(piece)])
		if !bytes.Equal(first, was) {
			t.Errorf("%q: writing into the piece made the answer %q", ahead, first)
		}
		second := s.Feed([]byte("two"))
		overwrite(second[:cap(second)])
		if !bytes.Equal(first, was) {
			t.Errorf("%q: writing into another answer made the first one %q", ahead, first)
		}
		third := append(make([]byte, 0, 64), "three"...)
		overwrite(s.Feed(third))
		if string(third) != "three" {
			t.Errorf("%q: writing into the answer made the piece %q", ahead, third)
		}
	}
}

// P1 and P3.1: a long text, whole, byte by byte and in pieces between.
func TestLong(t *testing.T) {
	rest := strings.Repeat("a,\"\xef\xbb\xbf\"\n\xff\x00", 20000)
	for _, ahead := range []string{"", "\xef", "\xef\xbb", "\xef\xbb\xbf"} {
		text := ahead + rest
		for _, step := range []int{1, 2, 3, 4, 1000, len(text)} {
			s := New()
			var out []byte
			for piece := range slices.Chunk([]byte(text), step) {
				out = append(out, s.Feed(piece)...)
			}
			out = append(out, s.Close()...)
			if on, had := Strip(text); string(out) != on || s.Stripped() != had || had != (len(ahead) == 3) {
				t.Errorf("%q and so on, by %d: %d bytes, %v", ahead, step, len(out), s.Stripped())
			}
		}
	}
}

func FuzzPieces(f *testing.F) {
	for _, s := range []string{"", "a", "\xef\xbb", "\xef\xbb\xbf", "\xef\xbb\xbfa,b\n", "\xef\xbba\xbf"} {
		f.Add(s, uint(1), uint(2))
	}
	f.Fuzz(func(t *testing.T, s string, one, two uint) {
		checkStrip(t, s)
		first := min(one, uint(len(s)))
		second := first + min(two, uint(len(s))-first)
		x := newFeeder(t)
		x.feed(s[:first])
		x.feed(s[first:second])
		x.feed(s[second:])
		x.close()
	})
}
