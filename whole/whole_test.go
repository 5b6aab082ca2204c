package whole

import (
	"cmp"
	"fmt"
	"math"
	"math/rand"
	"regexp"
	"slices"
	"strings"
	"testing"
	"unicode/utf8"

	"quillpen/api"
	"quillpen/dialect"
)

const mark = "\xef\xbb\xbf"

var ends = []int{api.LF, api.CRLF, api.Either}

func comma(end int) api.Dialect { return api.Dialect{Delim: ',', Quote: '"', End: end} }

// grammar is the texts of a dialect, as the chapter's words say them: without limits, and whether or not they are UTF-8.
type grammar struct {
	d     api.Dialect
	texts *regexp.Regexp
}

func grammarOf(d api.Dialect) grammar {
	delim, quote := fmt.Sprintf(`\x%02x`, d.Delim), fmt.Sprintf(`\x%02x`, d.Quote)
	end := map[int]string{api.LF: `\n`, api.CRLF: `\r\n`, api.Either: `(?:\n|\r\n)`}[d.End]
	field := `(?:[^` + delim + quote + `\r\n]*|` + quote + `(?:[^` + quote + `]|` + quote + quote + `)*` + quote + `)`
	record := field + `(?:` + delim + field + `)*`
	return grammar{d, regexp.MustCompile(`(?s)^(?:` + end + `|` + record + end + `)*(?:` + record + `)?$`)}
}

func (g grammar) isText(s string) bool { return g.texts.MatchString(s) }

// begins tells whether a text begins so: behind an open quote a Quote makes it one, within an end of line a line feed.
func (g grammar) begins(s string) bool {
	return g.isText(s) || g.isText(s+string([]byte{g.d.Quote})) || g.isText(s+"\n")
}

// kind is what the last byte of s comes to, where s begins no text but all ahead of that byte does.
func (g grammar) kind(s string) api.Errno {
	ahead, b := s[:len(s)-1], s[len(s)-1]
	switch {
	case !g.isText(ahead), b == '\r', b == '\n':
		return api.ErrEnd
	case b == g.d.Quote:
		return api.ErrQuote
	}
	return api.ErrAfter
}

// goesOn tells whether a text of UTF-8 begins so.
func goesOn(s string) bool {
	for utf8.FullRuneInString(s) {
		r, n := utf8.DecodeRuneInString(s)
		if r == utf8.RuneError && n == 1 {
			return false
		}
		s = s[n:]
	}
	return true
}

// right is how many bytes of a text are neither ErrUtf8 nor wrong by the dialect, and what the next one is.
func (g grammar) right(s, marked string) (int, api.Errno) {
	for n := 1; n <= len(s); n++ {
		if !goesOn(marked + s[:n]) {
			return n - 1, api.ErrUtf8
		}
		if !g.begins(s[:n]) {
			return n - 1, g.kind(s[:n])
		}
	}
	switch {
	case !utf8.ValidString(s):
		return len(s), api.ErrCut
	case g.isText(s):
		return len(s), api.OK
	case g.isText(s + "\n"):
		return len(s), api.ErrEnd
	}
	return len(s), api.ErrOpen
}

// spelt is a field: where each of its bytes is known to be one, and where the byte stands that ends it.
type spelt struct {
	s      string
	places []int
	end    int
}

// line is a record: where it begins, and where it is whole (the text's length, if it is only at its end).
type line struct {
	begin, whole int
	fields       []spelt
}

// spellField is the field at i of a text's beginning, and where it ends.
func spellField(d api.Dialect, s string, i int) (spelt, int) {
	var f spelt
	quoted := i < len(s) && s[i] == d.Quote
	if quoted {
		i++
	}
	for ; i < len(s); i++ {
		if quoted && s[i] == d.Quote {
			if i++; i == len(s) || s[i] != d.Quote {
				break
			}
		} else if !quoted && strings.IndexByte(string([]byte{d.Delim, '\r', '\n'}), s[i]) >= 0 {
			break
		}
		f.s += s[i : i+1]
		f.places = append(f.places, i)
	}
	f.end = i
	return f, i
}

// spell is the records of a text's beginning, the last of which may not be whole.
func spell(d api.Dialect, s string) []line {
	var out []line
	for i := 0; i < len(s); {
		if s[i] == '\r' || s[i] == '\n' {
			i++
			continue
		}
		l := line{begin: i}
		for {
			var f spelt
			f, i = spellField(d, s, i)
			l.fields = append(l.fields, f)
			if i == len(s) || s[i] != d.Delim {
				break
			}
			i++
		}
		l.whole = i
		if i < len(s) && s[i] == '\r' {
			l.whole++
		}
		out = append(out, l)
	}
	return out
}

// tooMuch is each place at which limits are overstepped by a text of the grammar, or by its beginning; the end counts if it is a text's.
func tooMuch(l api.Limits, lines []line, n int, isText bool) []api.Fault {
	var out []api.Fault
	for k, r := range lines {
		if k >= l.Records {
			out = append(out, api.Fault{Kind: api.ErrRecords, At: r.begin})
		}
		for j, f := range r.fields {
			if len(f.places) > l.Field {
				out = append(out, api.Fault{Kind: api.ErrField, At: f.places[l.Field]})
			}
			last := j == len(r.fields)-1
			if f.end == n && !isText {
				continue
			}
			if !last && j+1 >= l.Fields {
				out = append(out, api.Fault{Kind: api.ErrFields, At: f.end})
			}
			width := len(lines[0].fields)
			if l.Uniform && k > 0 && (last && j+1 != width || !last && j+1 == width) {
				out = append(out, api.Fault{Kind: api.ErrWidth, At: f.end})
			}
		}
	}
	return out
}

// rank is where a kind of fault stands in the chapter's order of those at one place.
func rank(e api.Errno) int {
	return slices.Index([]api.Errno{api.ErrUtf8, api.ErrCut, api.ErrQuote, api.ErrAfter, api.ErrEnd, api.ErrOpen, api.ErrRecords, api.ErrField, api.ErrFields, api.ErrWidth}, e)
}

// said is a text's way through the grammar, which all limits share.
type said struct {
	all, s string
	n      int
	e      api.Errno
	lines  []line
}

func (g grammar) say(all string) said {
	s := strings.TrimPrefix(all, mark)
	n, e := g.right(s, all[:len(all)-len(s)])
	return said{all, s, n, e, spell(g.d, s[:n])}
}

// parse is what the chapter's words say of a text.
func (t said) parse(l api.Limits) ([][]string, api.Fault) {
	faults := tooMuch(l, t.lines, t.n, t.n == len(t.s) && t.e == api.OK)
	if t.e != api.OK {
		faults = append(faults, api.Fault{Kind: t.e, At: t.n})
	}
	var first api.Fault
	ahead := len(t.s) + 1
	if len(faults) > 0 {
		first = slices.MinFunc(faults, func(a, b api.Fault) int {
			return cmp.Or(a.At-b.At, rank(a.Kind)-rank(b.Kind))
		})
		ahead = first.At
		first.At += len(t.all) - len(t.s)
	}
	var records [][]string
	for _, r := range t.lines {
		// What ends only where the right bytes end, ahead of a wrong one, isn't whole.
		if r.whole < ahead {
			var record []string
			for _, f := range r.fields {
				record = append(record, f.s)
			}
			records = append(records, record)
		}
	}
	return records, first
}

func sameRecords(a, b [][]string) bool {
	return slices.EqualFunc(a, b, slices.Equal[[]string]) && (a == nil) == (b == nil)
}

// checkText holds all four functions against what the chapter's words say of a text, within each of these limits.
func checkText(t *testing.T, g grammar, s string, limits []api.Limits) {
	t.Helper()
	want := g.say(s)
	for _, l := range limits {
		records, fault := want.parse(l)
		got, gotFault := Parse(g.d, l, s)
		if !sameRecords(got, records) || gotFault != fault {
			t.Fatalf("Parse(%v, %v, %q) = %q, %v; want %q, %v", g.d, l, s, got, gotFault, records, fault)
		}
		if first := First(g.d, l, s); first != fault {
			t.Fatalf("First(%v, %v, %q) = %v; want %v", g.d, l, s, first, fault)
		}
		if each := slices.Collect(Records(g.d, l, s)); !sameRecords(each, records) {
			t.Fatalf("Records(%v, %v, %q): %q; want %q", g.d, l, s, each, records)
		}
	}
	_, fault := want.parse(dialect.Wide())
	if Parses(g.d, s) != (fault == api.Fault{}) {
		t.Fatalf("Parses(%v, %q) = %v, but its fault is %v", g.d, s, Parses(g.d, s), fault)
	}
}

// smallLimits is all limits up to most, and the widest ones.
func smallLimits(most int) []api.Limits {
	out := []api.Limits{dialect.Wide()}
	for _, uniform := range []bool{false, true} {
		for field := 1; field <= most; field++ {
			for fields := 1; fields <= most; fields++ {
				for records := 1; records <= most; records++ {
					out = append(out, api.Limits{Field: field, Fields: fields, Records: records, Uniform: uniform})
				}
			}
		}
	}
	return out
}

// eachText hands on all texts of these bytes, up to a length.
func eachText(bytes string, long int, see func(s string)) {
	text := make([]byte, 0, long)
	var more func()
	more = func() {
		see(string(text))
		for i := 0; i < len(bytes) && len(text) < long; i++ {
			text = append(text, bytes[i])
			more()
			text = text[:len(text)-1]
		}
	}
	more()
}

// P6.1: all short texts of each kind of byte, at the widest limits.
func TestShortTexts(t *testing.T) {
	for _, end := range ends {
		g := grammarOf(comma(end))
		eachText("a\xc3\xa9\",\r\n", 5, func(s string) {
			checkText(t, g, s, []api.Limits{dialect.Wide()})
		})
	}
}

// P6.1: all short texts, within all small limits; the order of faults at one place hangs on both.
func TestShortTextsWithinLimits(t *testing.T) {
	limits := smallLimits(2)
	for _, end := range ends {
		g := grammarOf(comma(end))
		eachText("a\xc3\xa9\",\r\n", 4, func(s string) { checkText(t, g, s, limits) })
	}
}

// P6.1: longer texts, of the bytes alone that make records.
func TestRecordsWithinLimits(t *testing.T) {
	limits := smallLimits(2)
	limits = append(limits, api.Limits{Field: 3, Fields: 3, Records: 3, Uniform: true})
	g := grammarOf(comma(api.LF))
	eachText("a\",\n", 6, func(s string) { checkText(t, g, s, limits) })
}

// P6.1: the mark, parts of it, and two of them; its bytes count, but are no field's.
func TestMark(t *testing.T) {
	limits := smallLimits(1)
	g := grammarOf(comma(api.Either))
	eachText(mark+"a\n\"", 5, func(s string) { checkText(t, g, s, limits) })
	eachText("a,\"\xc3\r\n", 4, func(s string) { checkText(t, g, mark+s, limits) })
	for _, s := range []string{mark + mark, mark + mark + mark, "a" + mark, "\n" + mark + "a", "\"" + mark + "\"", mark[:2] + mark, mark[1:]} {
		checkText(t, g, s, smallLimits(3))
	}
}

// P6.1: each byte behind each state, in dialects whose own bytes are others.
func TestEachByte(t *testing.T) {
	for _, d := range []api.Dialect{comma(api.LF), comma(api.CRLF), comma(api.Either), {Delim: ';', Quote: '\'', End: api.CRLF}, {Delim: 0, Quote: 0x7f, End: api.Either}, {Delim: 'a', Quote: 'b', End: api.LF}} {
		g := grammarOf(d)
		q, c := string([]byte{d.Quote}), string([]byte{d.Delim})
		for b := range 256 {
			one := string([]byte{byte(b)})
			for _, ahead := range []string{"", "x", c, "x" + c, q, q + "x", q + q, "\r", "x\r", q + "x" + q + "\r", "x\n", "x\r\n", "\xe2", "\xe2\x82", q + "\xf0\x9f"} {
				for _, behind := range []string{"", "x", q, c, "\n"} {
					checkText(t, g, ahead+one+behind, []api.Limits{dialect.Wide(), {Field: 1, Fields: 1, Records: 1, Uniform: true}})
				}
			}
		}
	}
}

// P6.1: every right dialect's own bytes part and quote, and nothing else does.
func TestEachDialect(t *testing.T) {
	for delim := range 256 {
		for quote := range 256 {
			for end := -1; end <= 5; end++ {
				d := api.Dialect{Delim: byte(delim), Quote: byte(quote), End: end}
				e := dialect.Check(d)
				q, c := string([]byte{d.Quote}), string([]byte{d.Delim})
				s := q + "é" + c + q + q + q + c + dialect.End(d)
				records, fault := Parse(d, dialect.Wide(), s)
				want := [][]string{{"é" + c + q, ""}}
				if e != api.OK {
					want = nil
				}
				if !sameRecords(records, want) || fault != (api.Fault{Kind: e}) {
					t.Fatalf("Parse(%v, .., %q) = %q, %v; want %q, %v", d, s, records, fault, want, e)
				}
			}
		}
	}
}

// P6.1: longer texts, by chance that is always the same.
func TestLongTexts(t *testing.T) {
	chance := rand.New(rand.NewSource(6))
	parts := []string{"a", "b", "é", "€", "𝄞", ",", ",", "\n", "\n", "\r\n", "\"a,\n\"", "\"\"", "\"\"\"\"", "\"", "\r", "\x80", "\xe2\x82", mark}
	for n := range 6000 {
		d := comma(ends[n%3])
		if n%5 == 0 {
			d.Delim, d.Quote = 'a', 'b'
		}
		var b strings.Builder
		for range chance.Intn(14) {
			// Few of the parts that may be wrong, so that many texts go far.
			b.WriteString(parts[chance.Intn(len(parts)-5*chance.Intn(2))])
		}
		l := api.Limits{Field: 1 + chance.Intn(5), Fields: 1 + chance.Intn(5), Records: 1 + chance.Intn(5), Uniform: n%2 == 0}
		checkText(t, grammarOf(d), b.String(), []api.Limits{dialect.Wide(), l})
	}
}

// P6.1: what the chapter and the document give as examples.
func TestExamples(t *testing.T) {
	wide := dialect.Wide()
	for _, c := range []struct {
		s       string
		records [][]string
		fault   api.Fault
	}{
		{"a,\"b\"\"c\"\n\nd", [][]string{{"a", "b\"c"}, {"d"}}, api.Fault{}},
		{"a,\"b\"\"c\"\n", [][]string{{"a", "b\"c"}}, api.Fault{}},
		{"a\"b", nil, api.Fault{Kind: api.ErrQuote, At: 1}},
		{"\"a", nil, api.Fault{Kind: api.ErrOpen, At: 2}},
		{mark + "a", [][]string{{"a"}}, api.Fault{}},
		{mark, nil, api.Fault{}},
		{"", nil, api.Fault{}},
		{"\"\"", [][]string{{""}}, api.Fault{}},
		{",", [][]string{{"", ""}}, api.Fault{}},
	} {
		records, fault := Parse(comma(api.LF), wide, c.s)
		if !sameRecords(records, c.records) || fault != c.fault {
			t.Errorf("Parse(%q) = %q, %v; want %q, %v", c.s, records, fault, c.records, c.fault)
		}
	}
}

// P6.1: limits at their edges: what is just allowed, and one more.
func TestEdgesOfLimits(t *testing.T) {
	d := comma(api.CRLF)
	for _, c := range []struct {
		l     api.Limits
		s     string
		count int
		fault api.Fault
	}{
		{api.Limits{Field: 3, Fields: 9, Records: 9}, "abc,\"d\"\"f\"\r\n", 1, api.Fault{}},
		{api.Limits{Field: 3, Fields: 9, Records: 9}, "abc\r\nabcd\r\n", 1, api.Fault{Kind: api.ErrField, At: 8}},
		{api.Limits{Field: 3, Fields: 9, Records: 9}, "\"a\"\"b\"\"\"\r\n", 0, api.Fault{Kind: api.ErrField, At: 6}},
		{api.Limits{Field: 9, Fields: 2, Records: 9}, "a,b\r\nc,d,\r\n", 1, api.Fault{Kind: api.ErrFields, At: 8}},
		{api.Limits{Field: 9, Fields: 9, Records: 2}, "a\r\nb\r\n\r\n\r\n", 2, api.Fault{}},
		{api.Limits{Field: 9, Fields: 9, Records: 2}, "a\r\nb\r\n\r\n\"c", 2, api.Fault{Kind: api.ErrRecords, At: 8}},
		{api.Limits{Field: 9, Fields: 9, Records: 9, Uniform: true}, "a,b\r\nc\r\n", 1, api.Fault{Kind: api.ErrWidth, At: 6}},
		{api.Limits{Field: 9, Fields: 9, Records: 9, Uniform: true}, "a,b\r\nc,d,e\r\n", 1, api.Fault{Kind: api.ErrWidth, At: 8}},
		{api.Limits{Field: 9, Fields: 2, Records: 9, Uniform: true}, "a,b\r\nc,d,e\r\n", 1, api.Fault{Kind: api.ErrFields, At: 8}},
		{api.Limits{Field: 9, Fields: 9, Records: 9, Uniform: true}, mark + "a,b\r\nc", 1, api.Fault{Kind: api.ErrWidth, At: 9}},
		{api.Limits{Field: 1, Fields: 1, Records: 1}, mark + "\xc3\x80", 0, api.Fault{Kind: api.ErrField, At: 4}},
		{api.Limits{Field: 1, Fields: 1, Records: 1}, "a\xff", 0, api.Fault{Kind: api.ErrUtf8, At: 1}},
	} {
		records, fault := Parse(d, c.l, c.s)
		if len(records) != c.count || fault != c.fault {
			t.Errorf("Parse(.., %v, %q) = %q, %v; want %d records, %v", c.l, c.s, records, fault, c.count, c.fault)
		}
	}
}

// P6.1: wrong dialects, wrong limits, and both: the dialect is told first, at 0, and nothing else is.
func TestWrongArguments(t *testing.T) {
	right, wide := comma(api.LF), dialect.Wide()
	dialects := []api.Dialect{{}, {Delim: ',', Quote: ',', End: api.LF}, {Delim: ',', Quote: '"'}, {Delim: ',', Quote: '"', End: 4}, {Delim: ',', Quote: '"', End: math.MinInt}, {Delim: 0x80, Quote: '"', End: api.LF}, {Delim: ',', Quote: '\n', End: api.LF}}
	limits := []api.Limits{{}, {Field: 1, Fields: 1}, {Field: 1, Records: 1}, {Fields: 1, Records: 1}, {Field: -1, Fields: 1, Records: 1}, {Field: api.MaxLimit + 1, Fields: 1, Records: 1}, {Field: math.MaxInt, Fields: math.MaxInt, Records: math.MaxInt, Uniform: true}, {Field: 1, Fields: math.MinInt, Records: 1}}
	check := func(d api.Dialect, l api.Limits, e api.Errno) {
		for _, s := range []string{"", "a\n", "a\n\xff", mark + "\"", mark} {
			records, fault := Parse(d, l, s)
			want := api.Fault{Kind: e}
			if records != nil || fault != want || First(d, l, s) != want || slices.Collect(Records(d, l, s)) != nil {
				t.Errorf("Parse(%v, %v, %q) = %q, %v; want %v", d, l, s, records, fault, want)
			}
		}
	}
	for _, d := range dialects {
		check(d, wide, api.ErrDialect)
		for _, l := range limits {
			check(d, l, api.ErrDialect)
		}
		if Parses(d, "") || Parses(d, "a") {
			t.Errorf("Parses(%v, ..) = true", d)
		}
	}
	for _, l := range limits {
		check(right, l, api.ErrLimits)
	}
	greatest := api.Limits{Field: api.MaxLimit, Fields: api.MaxLimit, Records: api.MaxLimit, Uniform: true}
	if records, fault := Parse(right, greatest, "a,b\nc,d"); len(records) != 2 || fault != (api.Fault{}) {
		t.Errorf("the greatest limits: %q, %v", records, fault)
	}
}

// P6.1: Records hands on as many as are asked for, and the same when it is asked again.
func TestRecordsAsFarAsAsked(t *testing.T) {
	for _, s := range []string{"a\nb,c\n\nd", "a\nb\nc\"", mark + "a\nb\n", "", "\"\"", "a\r"} {
		for _, end := range ends {
			records, _ := Parse(comma(end), dialect.Wide(), s)
			seq := Records(comma(end), dialect.Wide(), s)
			for most := 1; most <= len(records)+1; most++ {
				var got [][]string
				for r := range seq {
					if got = append(got, r); len(got) == most {
						break
					}
				}
				if !sameRecords(got, records[:min(most, len(records))]) && len(records) > 0 {
					t.Errorf("Records(%q), %d asked: %q; want of %q", s, most, got, records)
				}
			}
		}
	}
}

// P6.1: a record is made when it is asked for, not ahead of that.
func TestRecordsMakesNoMore(t *testing.T) {
	s := strings.Repeat("a,b,c\n", 100000)
	made := testing.AllocsPerRun(3, func() {
		for range Records(comma(api.LF), dialect.Wide(), s) {
			break
		}
	})
	if made > 100 {
		t.Errorf("one record of many: %v things were made", made)
	}
}

// P6.1: two walks at once don't hang on each other.
func TestRecordsWithinRecords(t *testing.T) {
	seq := Records(comma(api.LF), dialect.Wide(), "a\nb\nc")
	var got []string
	for outer := range seq {
		for inner := range seq {
			got = append(got, outer[0]+inner[0])
		}
	}
	if strings.Join(got, " ") != "aa ab ac ba bb bc ca cb cc" {
		t.Errorf("%q", got)
	}
}

// Rule 2: what a caller writes into one record, no other one shows.
func TestRecordsAreTheCallers(t *testing.T) {
	s := "a,b\nc\nd,e,f\n"
	records, _ := Parse(comma(api.LF), dialect.Wide(), s)
	for i := range records {
		_ = append(records[i], "x", "y")
		for j := range records[i] {
			records[i][j] = "z"
		}
	}
	if !sameRecords(records, [][]string{{"z", "z"}, {"z"}, {"z", "z", "z"}}) {
		t.Errorf("%q", records)
	}
	var kept [][]string
	for r := range Records(comma(api.LF), dialect.Wide(), s) {
		kept = append(kept, slices.Clone(r))
		_ = append(r, "x")
		clear(r)
	}
	if !sameRecords(kept, [][]string{{"a", "b"}, {"c"}, {"d", "e", "f"}}) {
		t.Errorf("%q", kept)
	}
}

// P1, P6.1: any dialect, limits and text at all.
func FuzzParse(f *testing.F) {
	f.Add(byte(','), byte('"'), 1, 9, 9, 9, false, "a,\"b\"\"c\"\n\nd")
	f.Add(byte(';'), byte('\''), 3, 2, 2, 2, true, mark+"a;b\r\nc\n'\xe2\x82")
	f.Fuzz(func(t *testing.T, delim, quote byte, end, field, fields, records int, uniform bool, s string) {
		d := api.Dialect{Delim: delim, Quote: quote, End: end}
		l := api.Limits{Field: field, Fields: fields, Records: records, Uniform: uniform}
		if dialect.Check(d) == api.OK && dialect.CheckLimits(l) == api.OK && len(s) < 300 {
			checkText(t, grammarOf(d), s, []api.Limits{l})
			return
		}
		got, fault := Parse(d, l, s)
		if e := cmp.Or(dialect.Check(d), dialect.CheckLimits(l)); e != api.OK && (got != nil || fault != api.Fault{Kind: e}) {
			t.Errorf("Parse(%v, %v, %q) = %q, %v", d, l, s, got, fault)
		}
	})
}
