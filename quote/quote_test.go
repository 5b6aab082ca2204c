package quote

import (
	"slices"
	"strings"
	"testing"
	"unicode/utf8"

	"quillpen/api"
	"quillpen/samples"
	"quillpen/whole"
)

var (
	bools = []bool{false, true}
	wide  = api.Limits{Field: 1 << 31, Fields: 1 << 31, Records: 1 << 31}
	usual = api.Dialect{Delim: ',', Quote: '"', End: api.LF}
)

// bytesOf is bytes that matter in a dialect, and some that have no meaning.
func bytesOf(d api.Dialect) []byte {
	return []byte{d.Delim, d.Quote, '\r', '\n', 0xff, 'x'}
}

// quoted says the chapter's words byte by byte.
func quoted(d api.Dialect, f string) string {
	all := []byte{d.Quote}
	for i := range len(f) {
		all = append(all, f[i])
		if f[i] == d.Quote {
			all = append(all, f[i])
		}
	}
	return string(append(all, d.Quote))
}

// mustBe says layer 8's words: whether a field must be quoted.
func mustBe(d api.Dialect, f string, alone, first bool) bool {
	for i := range len(f) {
		if b := f[i]; b == d.Delim || b == d.Quote || b == 13 || b == 10 {
			return true
		}
	}
	return f == "" && alone || first && len(f) >= 3 && f[:3] == "\xef\xbb\xbf"
}

// answer is what Unquote answers.
type answer struct {
	field string
	is    bool
	e     api.Errno
}

func unquoteOf(d api.Dialect, s string) answer {
	f, is, e := Unquote(d, s)
	return answer{f, is, e}
}

// unquote says the chapter's words byte by byte.
func unquote(d api.Dialect, s string) answer {
	if s == "" || s[0] != d.Quote {
		for i := range len(s) {
			if b := s[i]; b == d.Delim || b == d.Quote || b == 13 || b == 10 {
				return answer{e: api.ErrForm}
			}
		}
		return answer{field: s}
	}
	var field []byte
	for i := 1; i < len(s); i++ {
		switch {
		case s[i] != d.Quote:
			field = append(field, s[i])
		case i == len(s)-1:
			return answer{field: string(field), is: true}
		case s[i+1] != d.Quote:
			return answer{e: api.ErrQuote}
		default:
			field = append(field, s[i])
			i++
		}
	}
	return answer{e: api.ErrQuote}
}

// check holds all that is told of a field against the words.
func check(t *testing.T, d api.Dialect, f string) {
	t.Helper()
	q := quoted(d, f)
	if got := Quoted(d, f); got != q {
		t.Fatalf("Quoted(%v, %q) = %q, want %q", d, f, got, q)
	}
	if got := unquoteOf(d, q); got != (answer{f, true, api.OK}) {
		t.Fatalf("Unquote(%v, %q) = %#v, want %q", d, q, got, f)
	}
	for _, alone := range bools {
		for _, first := range bools {
			checkWritten(t, d, f, alone, first)
		}
	}
}

// checkWritten holds a field as it is written against the words, and takes it back.
func checkWritten(t *testing.T, d api.Dialect, f string, alone, first bool) {
	t.Helper()
	want, must := f, mustBe(d, f, alone, first)
	if must {
		want = quoted(d, f)
	}
	got := Written(d, f, alone, first)
	if got != want {
		t.Fatalf("Written(%v, %q, %v, %v) = %q, want %q", d, f, alone, first, got, want)
	}
	if n := Size(d, f, alone, first); n != len(want) {
		t.Fatalf("Size(%v, %q, %v, %v) = %d, want %d", d, f, alone, first, n, len(want))
	}
	if back := unquoteOf(d, got); back != (answer{f, must, api.OK}) {
		t.Fatalf("Unquote(%v, %q) = %#v, want %q, %v", d, got, back, f, must)
	}
}

// P9.1: Quoted, written out.
func TestQuoted(t *testing.T) {
	for f, want := range map[string]string{
		"":           `""`,
		"a":          `"a"`,
		`"`:          `""""`,
		`""`:         `""""""`,
		`a"b`:        `"a""b"`,
		`"a"`:        `"""a"""`,
		"a,b":        `"a,b"`,
		"\r\n":       "\"\r\n\"",
		"it's":       `"it's"`,
		"\xff":       "\"\xff\"",
		"\ufeff":     "\"\ufeff\"",
		"\x00\"\x00": "\"\x00\"\"\x00\"",
	} {
		if got := Quoted(usual, f); got != want {
			t.Errorf("Quoted(%q) = %q, want %q", f, got, want)
		}
	}
}

// P9.1: Written and Size, written out: alone, first, and what must be quoted in any place.
func TestWritten(t *testing.T) {
	for _, c := range []struct {
		f            string
		alone, first bool
		want         string
	}{
		{"", false, false, ""},
		{"", false, true, ""},
		{"", true, false, `""`},
		{"", true, true, `""`},
		{"a", true, true, "a"},
		{"it's; a\tb", true, true, "it's; a\tb"},
		{"a,b", false, false, `"a,b"`},
		{`"`, false, false, `""""`},
		{`a"b`, true, true, `"a""b"`},
		{"\r", false, false, "\"\r\""},
		{"\n", false, false, "\"\n\""},
		{"a\r\nb", false, true, "\"a\r\nb\""},
		{"\ufeff", false, false, "\ufeff"},
		{"\ufeff", true, false, "\ufeff"},
		{"\ufeff", false, true, "\"\ufeff\""},
		{"\ufeffa", true, true, "\"\ufeffa\""},
		{"a\ufeff", true, true, "a\ufeff"},
		{"\ufeff\"", true, true, "\"\ufeff\"\"\""},
		{"\xef\xbb", true, true, "\xef\xbb"},
	} {
		if got := Written(usual, c.f, c.alone, c.first); got != c.want {
			t.Errorf("Written(%q, %v, %v) = %q, want %q", c.f, c.alone, c.first, got, c.want)
		}
		if n := Size(usual, c.f, c.alone, c.first); n != len(c.want) {
			t.Errorf("Size(%q, %v, %v) = %d, want %d", c.f, c.alone, c.first, n, len(c.want))
		}
	}
}

// P9.1: Unquote, written out: quoted, bare, and each way to be wrong.
func TestUnquote(t *testing.T) {
	for s, want := range map[string]answer{
		"":             {"", false, api.OK},
		"a":            {"a", false, api.OK},
		" a ":          {" a ", false, api.OK},
		"it's":         {"it's", false, api.OK},
		"\ufeff":       {"\ufeff", false, api.OK},
		"\xff":         {"\xff", false, api.OK},
		`""`:           {"", true, api.OK},
		`"a"`:          {"a", true, api.OK},
		`""""`:         {`"`, true, api.OK},
		`""""""`:       {`""`, true, api.OK},
		`"a""b"`:       {`a"b`, true, api.OK},
		`"""a"`:        {`"a`, true, api.OK},
		`"a"""`:        {`a"`, true, api.OK},
		"\"a,b\"":      {"a,b", true, api.OK},
		"\"\r\n\"":     {"\r\n", true, api.OK},
		"\"\ufeff\"":   {"\ufeff", true, api.OK},
		"\"\xff\"":     {"\xff", true, api.OK},
		`"`:            {"", false, api.ErrQuote},
		`"a`:           {"", false, api.ErrQuote},
		`"""`:          {"", false, api.ErrQuote},
		`"""""`:        {"", false, api.ErrQuote},
		`"a"b"`:        {"", false, api.ErrQuote},
		`"a""`:         {"", false, api.ErrQuote},
		`"a"b`:         {"", false, api.ErrQuote},
		`""a`:          {"", false, api.ErrQuote},
		`"",""`:        {"", false, api.ErrQuote},
		`"a" `:         {"", false, api.ErrQuote},
		"\"a\"\n":      {"", false, api.ErrQuote},
		"\",":          {"", false, api.ErrQuote},
		`"a""b"c""d"`:  {"", false, api.ErrQuote},
		`"a"""b"""c"`:  {"", false, api.ErrQuote},
		`a"`:           {"", false, api.ErrForm},
		` "a"`:         {"", false, api.ErrForm},
		`a""b`:         {"", false, api.ErrForm},
		"\ufeff\"a\"":  {"", false, api.ErrForm},
		"a,b":          {"", false, api.ErrForm},
		",":            {"", false, api.ErrForm},
		"\r":           {"", false, api.ErrForm},
		"\n":           {"", false, api.ErrForm},
		"a\r\n":        {"", false, api.ErrForm},
		"a\rb":         {"", false, api.ErrForm},
		",\"a\"":       {"", false, api.ErrForm},
		"\xff,":        {"", false, api.ErrForm},
		"\"\"\"a\"\"b": {"", false, api.ErrQuote},
	} {
		if got := unquoteOf(usual, s); got != want {
			t.Errorf("Unquote(%q) = %#v, want %#v", s, got, want)
		}
	}
}

// P9.1: the Delim and the Quote are the dialect's; carriage return and line feed count, however its lines end.
func TestOfDialects(t *testing.T) {
	for _, end := range samples.Ends() {
		d := api.Dialect{Delim: '"', Quote: ',', End: end}
		for f, want := range map[string]string{"\"": ",\",", ",": ",,,,", "\r": ",\r,", "\n": ",\n,", "'": "'"} {
			if got := Written(d, f, false, false); got != want {
				t.Errorf("Written(%v, %q) = %q, want %q", d, f, got, want)
			}
		}
		for s, want := range map[string]answer{
			",\",": {"\"", true, api.OK},
			"\"":   {"", false, api.ErrForm},
			"\"\"": {"", false, api.ErrForm},
			",":    {"", false, api.ErrQuote},
			"\r":   {"", false, api.ErrForm},
			"\n":   {"", false, api.ErrForm},
		} {
			if got := unquoteOf(d, s); got != want {
				t.Errorf("Unquote(%v, %q) = %#v, want %#v", d, s, got, want)
			}
		}
	}
}

// P9.1, P9.2: all short fields of the bytes that matter, and those with the mark ahead.
func TestShortFields(t *testing.T) {
	for _, d := range samples.Dialects() {
		samples.EachText(bytesOf(d), 5, func(f string) {
			check(t, d, f)
			check(t, d, "\ufeff"+f)
		})
		samples.EachText([]byte{0xef, 0xbb, 0xbf, d.Quote}, 5, func(f string) { check(t, d, f) })
	}
}

// P9.1: all short texts, fields written or not.
func TestUnquoteOfShortTexts(t *testing.T) {
	for _, d := range samples.Dialects() {
		see := func(s string) {
			if got, want := unquoteOf(d, s), unquote(d, s); got != want {
				t.Fatalf("Unquote(%v, %q) = %#v, want %#v", d, s, got, want)
			}
		}
		samples.EachText(bytesOf(d), 6, see)
		samples.EachText([]byte{d.Quote, 'x'}, 12, see)
	}
}

// P9.1: a text that begins with a Quote is a field just where it is one of the fields quoted.
func TestUnquoteTellsThoseQuoted(t *testing.T) {
	for _, d := range samples.Dialects() {
		is := map[string]string{}
		samples.EachText(bytesOf(d), 4, func(f string) { is[quoted(d, f)] = f })
		samples.EachText(bytesOf(d), 5, func(rest string) {
			s := string([]byte{d.Quote}) + rest
			want := answer{e: api.ErrQuote}
			if f, ok := is[s]; ok {
				want = answer{f, true, api.OK}
			}
			if got := unquoteOf(d, s); got != want {
				t.Fatalf("Unquote(%v, %q) = %#v, want %#v", d, s, got, want)
			}
		})
	}
}

// P9.1, P9.2: each byte in each dialect that is right.
func TestEachByte(t *testing.T) {
	samples.EachDialect(func(d api.Dialect) {
		for b := range 256 {
			s := string([]byte{byte(b)})
			checkWritten(t, d, s, true, true)
			if got, want := unquoteOf(d, s), unquote(d, s); got != want {
				t.Fatalf("Unquote(%v, %q) = %#v, want %#v", d, s, got, want)
			}
		}
	})
}

// P9.1, P9.2: a byte that matters at each place of fields of many lengths.
func TestLongFields(t *testing.T) {
	for _, d := range samples.Dialects() {
		for long := range 40 {
			plain := strings.Repeat("x", long)
			check(t, d, strings.Repeat(string([]byte{d.Quote}), long))
			for at := range long + 1 {
				for _, b := range bytesOf(d) {
					f := plain[:at] + string([]byte{b}) + plain[at:]
					check(t, d, f)
					inside := string([]byte{d.Quote}) + f + string([]byte{d.Quote})
					if got, want := unquoteOf(d, inside), unquote(d, inside); got != want {
						t.Fatalf("Unquote(%v, %q) = %#v, want %#v", d, inside, got, want)
					}
				}
			}
		}
	}
	long := strings.Repeat("éx", 1<<18)
	for _, f := range []string{long, long + ",", "\"" + long, long + "\"" + long, "\ufeff" + long, strings.Repeat("\"", 1<<19), strings.Repeat("a\"", 1<<18)} {
		check(t, usual, f)
	}
}

// checkRead: a field as it is written, and one quoted, is read as the field, as a text's only one and beside others.
func checkRead(t *testing.T, d api.Dialect, f string) {
	t.Helper()
	delim := string([]byte{d.Delim})
	for _, end := range samples.LineEnds(d) {
		for text, want := range map[string][]string{
			Written(d, f, true, true) + end:                                {f},
			Quoted(d, f) + end:                                             {f},
			Written(d, f, false, true) + delim + Quoted(d, f) + end:        {f, f},
			Quoted(d, f) + delim + Written(d, f, false, false) + end:       {f, f},
			delim + Written(d, f, false, false) + delim + end:              {"", f, ""},
			Quoted(d, "x") + delim + Written(d, f, false, false):           {"x", f},
			Written(d, "x", true, true) + end + Written(d, f, true, false): {f},
		} {
			records, fault := whole.Parse(d, wide, text)
			if fault != (api.Fault{}) || len(records) == 0 || !slices.Equal(records[len(records)-1], want) {
				t.Fatalf("%v: %q, written as %q, is read as %q, %v", d, f, text, records, fault)
			}
		}
	}
}

// P9.2, P4: what is written is read as the field; what Unquote takes back is what the reader takes.
func TestRead(t *testing.T) {
	for _, d := range samples.Dialects() {
		samples.EachText([]byte{d.Delim, d.Quote, '\r', '\n', 'y'}, 4, func(f string) {
			checkRead(t, d, f)
			checkRead(t, d, "\ufeff"+f)
		})
	}
}

// P9.1: of a text without line ends that begins with a Quote, Unquote says what the reader says of it as a record of one field.
func TestUnquoteAgreesWithTheReader(t *testing.T) {
	for _, d := range samples.Dialects() {
		samples.EachText([]byte{d.Quote, 'y', 'z'}, 6, func(rest string) {
			s := string([]byte{d.Quote}) + rest
			records, fault := whole.Parse(d, wide, s)
			got := unquoteOf(d, s)
			if (got.e == api.OK) != (fault == api.Fault{}) {
				t.Fatalf("Unquote(%v, %q) = %#v, the reader: %q, %v", d, s, got, records, fault)
			}
			if got.e == api.OK && !slices.Equal(records[0], []string{got.field}) {
				t.Fatalf("Unquote(%v, %q) = %#v, the reader: %q", d, s, got, records)
			}
		})
	}
}

// P9.1: the chapter's example.
func TestExample(t *testing.T) {
	d := api.Dialect{Delim: ',', Quote: '\'', End: api.LF}
	if got := Quoted(d, "it's"); got != "'it''s'" {
		t.Error(got)
	}
	if got := Written(d, "it's", false, false); got != "'it''s'" {
		t.Error(got)
	}
	if got := unquoteOf(d, "'it''s'"); got != (answer{"it's", true, api.OK}) {
		t.Error(got)
	}
}

// P1, P9.1, P9.2: any fields and texts, in any right dialect; in one that isn't right the calls end, too.
func FuzzQuote(f *testing.F) {
	f.Add(byte(','), byte('"'), 1, "a\"b", "\"a\"")
	f.Add(byte(';'), byte('\''), 2, "\ufeff", "'")
	f.Add(byte(0), byte(127), 3, "\r\n", "\xff")
	f.Fuzz(func(t *testing.T, delim, quote byte, end int, field, s string) {
		d := api.Dialect{Delim: delim, Quote: quote, End: end}
		Quoted(d, field)
		Written(d, field, true, true)
		Size(d, field, true, true)
		Unquote(d, s)
		if max(delim, quote) >= 128 || delim == quote || strings.ContainsAny(string([]byte{delim, quote}), "\r\n") || !slices.Contains(samples.Ends(), end) {
			return
		}
		check(t, d, field)
		if got, want := unquoteOf(d, s), unquote(d, s); got != want {
			t.Fatalf("Unquote(%v, %q) = %#v, want %#v", d, s, got, want)
		}
		if utf8.ValidString(field) && delim != 'x' && quote != 'x' {
			checkRead(t, d, field)
		}
	})
}
