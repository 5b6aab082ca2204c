package dialect

import (
	"fmt"
	"math"
	"slices"
	"strings"
	"testing"

	"quillpen/api"
)

// The three ends, numbers beside them, and some that would come to one of the three if only their lowest bits counted.
var someEnds = []int{1, 2, 3, 0, 4, -1, -3, 256 + 1, 1<<32 + 2, math.MaxInt, math.MinInt}

// The words stand here on their own, so that a wrong one in the program is seen.
var endWords = map[int]string{1: "lf", 2: "crlf", 3: "either"}

func eachDialect(see func(d api.Dialect)) {
	for delim := range 256 {
		for quote := range 256 {
			for _, end := range someEnds {
				see(api.Dialect{Delim: byte(delim), Quote: byte(quote), End: end})
			}
		}
	}
}

func isRight(d api.Dialect) bool {
	marks := []byte{d.Delim, d.Quote}
	high := slices.Max(marks) > 127
	ends := slices.Contains(marks, 10) || slices.Contains(marks, 13)
	return !high && !ends && d.Delim != d.Quote && endWords[d.End] != ""
}

// wellFormed is each text that is a dialect's, right or not, with that dialect.
func wellFormed() map[string]api.Dialect {
	all := map[string]api.Dialect{}
	for delim := range 256 {
		for quote := range 256 {
			for end, word := range endWords {
				s := fmt.Sprintf("%02x %02x %s", delim, quote, word)
				all[s] = api.Dialect{Delim: byte(delim), Quote: byte(quote), End: end}
			}
		}
	}
	return all
}

func checkParse(t *testing.T, s string, forms map[string]api.Dialect) {
	t.Helper()
	want, wantErr := forms[s], api.OK
	if _, ok := forms[s]; !ok {
		wantErr = api.ErrForm
	} else if !isRight(want) {
		want, wantErr = api.Dialect{}, api.ErrDialect
	}
	if d, e := Parse(s); d != want || e != wantErr {
		t.Fatalf("Parse(%q) = %v, %d; want %v, %d", s, d, e, want, wantErr)
	}
}

// P1.1: Check of all dialects, of each byte with each.
func TestCheck(t *testing.T) {
	right := 0
	eachDialect(func(d api.Dialect) {
		want := api.ErrDialect
		if isRight(d) {
			want, right = api.OK, right+1
		}
		if e := Check(d); e != want {
			t.Fatalf("Check(%v) = %d, want %d", d, e, want)
		}
	})
	// 126 bytes may be the Delim, 125 others the Quote.
	if right != 126*125*3 {
		t.Fatal(right, "dialects are right")
	}
}

// P1.1: the edges that the chapter names, written out.
func TestCheckEdges(t *testing.T) {
	cases := []struct {
		d    api.Dialect
		want api.Errno
	}{
		{api.Dialect{Delim: ',', Quote: '"', End: api.LF}, api.OK},
		{api.Dialect{Delim: ',', Quote: '"', End: api.CRLF}, api.OK},
		{api.Dialect{Delim: ',', Quote: '"', End: api.Either}, api.OK},
		{api.Dialect{Delim: '"', Quote: ',', End: api.LF}, api.OK},
		{api.Dialect{Delim: 0, Quote: 1, End: api.LF}, api.OK},
		{api.Dialect{Delim: 1, Quote: 0, End: api.LF}, api.OK},
		{api.Dialect{Delim: 0x7f, Quote: ' ', End: api.LF}, api.OK},
		{api.Dialect{Delim: ' ', Quote: 0x7f, End: api.LF}, api.OK},
		{api.Dialect{Delim: 0x80, Quote: '"', End: api.LF}, api.ErrDialect},
		{api.Dialect{Delim: ',', Quote: 0x80, End: api.LF}, api.ErrDialect},
		{api.Dialect{Delim: 0xff, Quote: '"', End: api.LF}, api.ErrDialect},
		{api.Dialect{Delim: '\r', Quote: '"', End: api.LF}, api.ErrDialect},
		{api.Dialect{Delim: ',', Quote: '\r', End: api.LF}, api.ErrDialect},
		{api.Dialect{Delim: '\n', Quote: '"', End: api.CRLF}, api.ErrDialect},
		{api.Dialect{Delim: ',', Quote: '\n', End: api.CRLF}, api.ErrDialect},
		{api.Dialect{Delim: ',', Quote: ',', End: api.LF}, api.ErrDialect},
		{api.Dialect{Delim: ',', Quote: '"', End: 0}, api.ErrDialect},
		{api.Dialect{Delim: ',', Quote: '"', End: 4}, api.ErrDialect},
		{api.Dialect{Delim: ',', Quote: '"', End: -1}, api.ErrDialect},
		{api.Dialect{}, api.ErrDialect},
	}
	for _, c := range cases {
		if e := Check(c.d); e != c.want {
			t.Errorf("Check(%v) = %d, want %d", c.d, e, c.want)
		}
	}
}

// P1.1: each limit at each edge, with each of the others.
func TestCheckLimits(t *testing.T) {
	good := []int{1, 2, 1000, 1<<31 - 1, 1 << 31}
	wrong := []int{0, -1, 1<<31 + 1, 1<<32 + 1, -1 << 31, math.MaxInt, math.MinInt}
	all := slices.Concat(good, wrong)
	for _, field := range all {
		for _, fields := range all {
			for _, records := range all {
				want := api.ErrLimits
				if slices.Contains(good, field) && slices.Contains(good, fields) && slices.Contains(good, records) {
					want = api.OK
				}
				for _, uniform := range []bool{false, true} {
					l := api.Limits{Field: field, Fields: fields, Records: records, Uniform: uniform}
					if e := CheckLimits(l); e != want {
						t.Fatalf("CheckLimits(%v) = %d, want %d", l, e, want)
					}
				}
			}
		}
	}
	if CheckLimits(api.Limits{}) != api.ErrLimits {
		t.Error("no limits are right")
	}
}

// P1.1: the end of line of each of the three ends, and nothing where the dialect isn't right.
func TestEnd(t *testing.T) {
	lineEnds := map[int]string{1: "\n", 2: "\r\n", 3: "\n"}
	eachDialect(func(d api.Dialect) {
		want := ""
		if isRight(d) {
			want = lineEnds[d.End]
		}
		if s := End(d); s != want {
			t.Fatalf("End(%v) = %q, want %q", d, s, want)
		}
	})
}

// P1.1: the text of each dialect, and ErrDialect with no text.
func TestText(t *testing.T) {
	eachDialect(func(d api.Dialect) {
		want, wantErr := "", api.ErrDialect
		if isRight(d) {
			want, wantErr = fmt.Sprintf("%02x %02x %s", d.Delim, d.Quote, endWords[d.End]), api.OK
		}
		if s, e := Text(d); s != want || e != wantErr {
			t.Fatalf("Text(%v) = %q, %d; want %q, %d", d, s, e, want, wantErr)
		}
	})
}

// P1.1: the chapter's example.
func TestExample(t *testing.T) {
	d := api.Dialect{Delim: ',', Quote: '"', End: api.CRLF}
	if s, e := Text(d); s != "2c 22 crlf" || e != api.OK {
		t.Error(s, e)
	}
	if p, e := Parse("2c 22 crlf"); p != d || e != api.OK {
		t.Error(p, e)
	}
}

// P1.1: all texts of the form of a dialect's, right and not.
func TestParseForms(t *testing.T) {
	forms := wellFormed()
	for s := range forms {
		checkParse(t, s, forms)
	}
}

// P1.1: texts that are one byte away from a dialect's.
func TestParseNear(t *testing.T) {
	forms := wellFormed()
	for _, s := range []string{"2c 22 lf", "09 27 crlf", "7f 00 either", "9a f0 lf", "0a 0d crlf", "3b 3b either"} {
		for i := range len(s) + 1 {
			checkParse(t, s[:i], forms)
			checkParse(t, s[i:], forms)
			if i < len(s) {
				checkParse(t, s[:i]+s[i+1:], forms)
			}
			for b := range 256 {
				one := string([]byte{byte(b)})
				checkParse(t, s[:i]+one+s[i:], forms)
				if i < len(s) {
					checkParse(t, s[:i]+one+s[i+1:], forms)
				}
			}
		}
	}
}

// P1.1: what is no dialect's text, of whatever bytes.
func TestParseWrong(t *testing.T) {
	wrong := []string{
		"", " ", "  ", "   ", "lf", "2c", "2c 22", "2c 22 ", " 22 lf", "2c  lf", "2c22lf", "2c 22lf", "2c22 lf",
		" 2c 22 lf", "2c 22 lf ", "2c  22 lf", "2c 22  lf", "2c 22 lf lf", "2c 22 lf\n", "2c 22 lf\x00", "\ufeff2c 22 lf",
		"2c\t22\tlf", "2c\u00a022\u00a0lf", "2c,22,lf", "2c\n22\nlf",
		"2C 22 lf", "2c 2A lf", "2c 22 LF", "2c 22 Crlf", "2c 22 EITHER",
		"c 22 lf", "2c 2 lf", "02c 22 lf", "2c 022 lf", "0x2c 0x22 lf", "+c 22 lf", "-1 22 lf", "2c +2 lf", "2_ 22 lf", "2g 22 lf", "2c `2 lf", "2c :2 lf", "2c 2/ lf",
		"2c 22 cr", "2c 22 l", "2c 22 lfx", "2c 22 crl", "2c 22 crlfx", "2c 22 eithe", "2c 22 eithers", "2c 22 1", "2c 22 any",
		"٢c 22 lf", "２c 22 lf", "\xff\xfe", "2c \xff\xff lf", "\xc2 \xc2 lf", "2c 22 \xe2\x82", "\x00\x00 22 lf",
		", \" lf", "2c 22 \r\n",
		// What isn't of the form is that, even where the dialect wouldn't be right either.
		"2c 2c cr", "0a 0d LF", "80 22", "2c 2c lf ",
	}
	for _, s := range wrong {
		if d, e := Parse(s); d != (api.Dialect{}) || e != api.ErrForm {
			t.Errorf("Parse(%q) = %v, %d; want ErrForm", s, d, e)
		}
	}
	for _, part := range []string{" ", "2c ", "2c 22 lf ", "\x00", "\xff"} {
		s := strings.Repeat(part, 1<<16)
		if d, e := Parse(s); d != (api.Dialect{}) || e != api.ErrForm {
			t.Errorf("Parse of many %q = %v, %d; want ErrForm", part, d, e)
		}
	}
}

// P1.1: texts whose dialect isn't right.
func TestParseDialect(t *testing.T) {
	for _, s := range []string{"2c 2c lf", "00 00 either", "0a 22 lf", "2c 0a crlf", "0d 22 lf", "2c 0d either", "80 22 lf", "2c 80 lf", "ff 22 crlf", "2c ff crlf", "0a 0d lf", "ff ff lf"} {
		if d, e := Parse(s); d != (api.Dialect{}) || e != api.ErrDialect {
			t.Errorf("Parse(%q) = %v, %d; want ErrDialect", s, d, e)
		}
	}
}

// P1.1: MaxLimit of each, and these limits are right.
func TestWide(t *testing.T) {
	want := api.Limits{Field: 1 << 31, Fields: 1 << 31, Records: 1 << 31, Uniform: false}
	if l := Wide(); l != want || CheckLimits(l) != api.OK {
		t.Error(l)
	}
}

// P1.2: Parse of Text, of all dialects that are right; no two have one text.
func TestParseOfText(t *testing.T) {
	seen := map[string]bool{}
	eachDialect(func(d api.Dialect) {
		if Check(d) != api.OK {
			return
		}
		s, e := Text(d)
		if e != api.OK || seen[s] {
			t.Fatalf("Text(%v) = %q, %d", d, s, e)
		}
		seen[s] = true
		if p, e := Parse(s); p != d || e != api.OK {
			t.Fatalf("Parse(%q) = %v, %d; want %v", s, p, e, d)
		}
	})
	if len(seen) != 126*125*3 {
		t.Error(len(seen), "texts")
	}
}

// P1 and P1.2: Parse ends at any bytes, and what it takes is the text of what it answers.
func FuzzParse(f *testing.F) {
	for _, s := range []string{"", "2c 22 lf", "2c 2c lf", "0a 22 crlf", "7f 00 either", "\xff\xff \xff", "  "} {
		f.Add(s)
	}
	f.Fuzz(func(t *testing.T, s string) {
		d, e := Parse(s)
		if e != api.OK {
			if d != (api.Dialect{}) || e != api.ErrForm && e != api.ErrDialect {
				t.Fatalf("Parse(%q) = %v, %d", s, d, e)
			}
			return
		}
		if back, e := Text(d); back != s || e != api.OK {
			t.Fatalf("Text(%v) = %q, %d; want %q", d, back, e, s)
		}
	})
}
