package need

import (
	"slices"
	"strings"
	"testing"
	"unicode/utf8"

	"quillpen/api"
	"quillpen/samples"
	"quillpen/whole"
)

var (
	bools = []bool{false, true}
	wide  = api.Limits{Field: 1 << 31, Fields: 1 << 31, Records: 1 << 31}
)

// bytesOf is bytes that matter in a dialect, those of the mark, and some that have no meaning.
func bytesOf(d api.Dialect) []byte {
	return []byte{d.Delim, d.Quote, '\r', '\n', 0xef, 0xbb, 0xbf, 'x'}
}

// eachField hands on all fields of the bytes that matter in a dialect, up to a length.
func eachField(d api.Dialect, long int, see func(f string)) {
	samples.EachText(bytesOf(d), long, see)
}

// why says the chapter's words byte by byte: all reasons are gathered, and the least is told.
func why(d api.Dialect, f string, alone, first bool) int {
	var holds [6]bool
	for i := range len(f) {
		switch f[i] {
		case d.Delim:
			holds[1] = true
		case d.Quote:
			holds[2] = true
		case 13, 10:
			holds[3] = true
		}
	}
	holds[4] = len(f) == 0 && alone
	holds[5] = first && len(f) >= 3 && f[0] == 0xef && f[1] == 0xbb && f[2] == 0xbf
	return max(0, slices.Index(holds[:], true))
}

// check holds Why and Need of a field against the words, alone and not, first and not.
func check(t *testing.T, d api.Dialect, f string) {
	t.Helper()
	for _, alone := range bools {
		for _, first := range bools {
			want := why(d, f, alone, first)
			if n := Why(d, f, alone, first); n != want {
				t.Fatalf("Why(%v, %q, %v, %v) = %d, want %d", d, f, alone, first, n, want)
			}
			if n := Need(d, f, alone, first); n != (want != 0) {
				t.Fatalf("Need(%v, %q, %v, %v) = %v", d, f, alone, first, n)
			}
		}
	}
}

// checkFields holds Fields of a record against the words, and sees that the record stays as it was.
func checkFields(t *testing.T, d api.Dialect, r []string) {
	t.Helper()
	for _, first := range bools {
		given := slices.Clone(r)
		got := Fields(d, given, first)
		if !slices.Equal(given, r) {
			t.Fatalf("Fields(%v, %q, %v) writes into the record: %q", d, r, first, given)
		}
		var want []bool
		for i, f := range r {
			want = append(want, why(d, f, len(r) == 1, first && i == 0) != 0)
		}
		if !slices.Equal(got, want) {
			t.Fatalf("Fields(%v, %q, %v) = %v, want %v", d, r, first, got, want)
		}
	}
}

// P8.1: each reason, written out: which of several comes first, and what is near one but is none.
func TestWhySpelt(t *testing.T) {
	d := api.Dialect{Delim: ',', Quote: '"', End: api.LF}
	for _, c := range []struct {
		f            string
		alone, first bool
		want         int
	}{
		{"a", false, false, 0},
		{"a", true, true, 0},
		{"a;b'c d\te\x00f\x7f", true, true, 0},
		{"é", true, true, 0},
		{"\u2028\u2029\u0085\v\f", true, true, 0},
		{",", false, false, 1},
		{"a,", true, true, 1},
		{"\"", false, false, 2},
		{"a\"b", true, true, 2},
		{"\r", false, false, 3},
		{"\n", false, false, 3},
		{"a\r\nb", true, true, 3},
		{"", false, false, 0},
		{"", false, true, 0},
		{"", true, false, 4},
		{"", true, true, 4},
		{" ", true, true, 0},
		{"\ufeff", false, true, 5},
		{"\ufeff", true, true, 5},
		{"\ufeffa", false, true, 5},
		{"\ufeff\ufeff", true, true, 5},
		{"\ufeff", true, false, 0},
		{"\ufeffa", false, false, 0},
		{"a\ufeff", true, true, 0},
		{" \ufeff", true, true, 0},
		{"\xef\xbb", true, true, 0},
		{"\xef", true, true, 0},
		{"\xbb\xbf", true, true, 0},
		{"\xff\xfe", true, true, 0},
		{"\xfe\xff", true, true, 0},
		{"\xef\xbb\xbe", true, true, 0},
		{"\xef\xbc\xbf", true, true, 0},
		{"\xee\xbb\xbf", true, true, 0},
		{"\",", false, false, 1},
		{"\n\"", false, false, 2},
		{"\r\n,", false, false, 1},
		{"\n\",", true, true, 1},
		{"\ufeff,", true, true, 1},
		{"\ufeff\"", true, true, 2},
		{"\ufeff\r", true, true, 3},
	} {
		if n := Why(d, c.f, c.alone, c.first); n != c.want {
			t.Errorf("Why(%q, %v, %v) = %d, want %d", c.f, c.alone, c.first, n, c.want)
		}
		if n := Need(d, c.f, c.alone, c.first); n != (c.want != 0) {
			t.Errorf("Need(%q, %v, %v) = %v", c.f, c.alone, c.first, n)
		}
	}
}

// P8.1: the Delim and the Quote are the dialect's; carriage return and line feed count in each, however its lines end.
func TestWhyOfDialects(t *testing.T) {
	for _, end := range samples.Ends() {
		d := api.Dialect{Delim: '"', Quote: ',', End: end}
		for f, want := range map[string]int{"\"": 1, ",": 2, "\r": 3, "\n": 3, "\r\n": 3, ";": 0, "'": 0} {
			if n := Why(d, f, false, false); n != want {
				t.Errorf("Why(%v, %q) = %d, want %d", d, f, n, want)
			}
		}
	}
}

// P8.1: all short fields of the bytes that matter, UTF-8 or not.
func TestWhyOfShortFields(t *testing.T) {
	for _, d := range samples.Dialects() {
		eachField(d, 5, func(f string) { check(t, d, f) })
	}
}

// P8.1: each byte in each dialect that is right, by itself and behind another one.
func TestWhyOfEachByte(t *testing.T) {
	samples.EachDialect(func(d api.Dialect) {
		for b := range 256 {
			f := string([]byte{'x', byte(b)})
			for _, s := range []string{f, f[1:]} {
				if n, want := Why(d, s, true, true), why(d, s, true, true); n != want {
					t.Fatalf("Why(%v, %q) = %d, want %d", d, s, n, want)
				}
			}
		}
	})
}

// P8.1: a byte that matters at each place of fields of many lengths, with the mark and without.
func TestWhyOfLongFields(t *testing.T) {
	for _, d := range samples.Dialects() {
		for long := range 70 {
			for _, filling := range []string{"x", "\xff"} {
				plain := strings.Repeat(filling, long)
				check(t, d, plain)
				check(t, d, "\ufeff"+plain)
				for at := range long + 1 {
					for _, b := range bytesOf(d) {
						check(t, d, plain[:at]+string([]byte{b})+plain[at:])
					}
				}
			}
		}
	}
	d := api.Dialect{Delim: ',', Quote: '"', End: api.CRLF}
	long := strings.Repeat("éx", 1<<18)
	for _, f := range []string{long, long + ",", long + "\"", long + "\r", long + "\n", "\ufeff" + long, long + "\ufeff"} {
		check(t, d, f)
	}
}

// P8.1: all short records: only one that has no other is alone, only the first record's first field is first.
func TestFields(t *testing.T) {
	for _, d := range samples.Dialects() {
		delim, quote := string([]byte{d.Delim}), string([]byte{d.Quote})
		fields := []string{"", "x", "\ufeff", "\ufeffx", "x\ufeff", "\xef\xbb", "\xff", delim, "x" + quote, "\r", "x\n"}
		samples.EachList(fields, 3, func(r []string) { checkFields(t, d, r) })
	}
}

// P8.1: what records come to, written out.
func TestFieldsSpelt(t *testing.T) {
	d := api.Dialect{Delim: ',', Quote: '"', End: api.LF}
	for _, c := range []struct {
		r     []string
		first bool
		want  []bool
	}{
		{nil, false, nil},
		{nil, true, nil},
		{[]string{}, true, nil},
		{[]string{""}, false, []bool{true}},
		{[]string{""}, true, []bool{true}},
		{[]string{"", ""}, true, []bool{false, false}},
		{[]string{"", "", ""}, false, []bool{false, false, false}},
		{[]string{"a"}, true, []bool{false}},
		{[]string{"\ufeff"}, true, []bool{true}},
		{[]string{"\ufeff"}, false, []bool{false}},
		{[]string{"\ufeff", "\ufeff"}, true, []bool{true, false}},
		{[]string{"", "\ufeff"}, true, []bool{false, false}},
		{[]string{"a,b", "c", "d\"", "\n", "e"}, true, []bool{true, false, true, true, false}},
	} {
		if got := Fields(d, c.r, c.first); !slices.Equal(got, c.want) {
			t.Errorf("Fields(%q, %v) = %v, want %v", c.r, c.first, got, c.want)
		}
	}
}

// P8.1: a record of many fields, and of long ones.
func TestFieldsOfLongRecords(t *testing.T) {
	d := api.Dialect{Delim: ';', Quote: '\'', End: api.Either}
	var r []string
	for i := range 5000 {
		r = append(r, strings.Repeat("x", i%7)+[]string{"", ";", "'", "\r", "\n", "\ufeff"}[i*i%6])
	}
	checkFields(t, d, r)
}

// P8.1, rule 2: each answer is the caller's own.
func TestAnswersAreTheCallers(t *testing.T) {
	d := api.Dialect{Delim: ',', Quote: '"', End: api.LF}
	r := []string{",", ",", ","}
	first, second := Fields(d, r, true), Fields(d, r, true)
	clear(first[:cap(first)])
	if !slices.Equal(second, []bool{true, true, true}) {
		t.Error(second)
	}
}

// isRead tells whether a record whose fields stand as they are is read as these, at a text's beginning or behind another record.
func isRead(d api.Dialect, r []string, first bool, end string) bool {
	text, want := strings.Join(r, string([]byte{d.Delim}))+end, [][]string{r}
	if !first {
		// A record that needs no quotes in any of the dialects tried.
		text, want = "1"+end+text, [][]string{{"1"}, r}
	}
	records, fault := whole.Parse(d, wide, text)
	return fault == api.Fault{} && slices.EqualFunc(records, want, slices.Equal[[]string])
}

// checkRead: a record of which no field must be quoted is read as it stands; one of which a field must be is not, so that none is quoted needlessly.
func checkRead(t *testing.T, d api.Dialect, r []string) {
	t.Helper()
	for _, first := range bools {
		free := !slices.Contains(Fields(d, r, first), true)
		for _, end := range samples.LineEnds(d) {
			if read := isRead(d, r, first, end); read != free {
				t.Fatalf("%v, %q, first %v, %q: read as it stands: %v; none must be quoted: %v", d, r, first, end, read, free)
			}
		}
	}
}

// P8.2: short fields that are UTF-8, alone and beside others.
func TestReadAsItStands(t *testing.T) {
	for _, d := range samples.Dialects() {
		var short []string
		eachField(d, 4, func(f string) {
			if utf8.ValidString(f) {
				short = append(short, f)
			}
		})
		for _, f := range short {
			checkRead(t, d, []string{f})
			checkRead(t, d, []string{f, ""})
			checkRead(t, d, []string{"", f})
			checkRead(t, d, []string{"\ufeffx", f, "x"})
		}
	}
}

// P8.2: short records of fields that look like something.
func TestRecordsReadAsTheyStand(t *testing.T) {
	for _, d := range samples.Dialects() {
		delim, quote := string([]byte{d.Delim}), string([]byte{d.Quote})
		fields := []string{"", "x", "é", " ", ",", "\"", "\ufeff", "x\ufeff", delim + "x", quote + "x" + quote, "x\r", "\r\n"}
		samples.EachList(fields, 3, func(r []string) {
			if len(r) > 0 {
				checkRead(t, d, r)
			}
		})
	}
}

// P8.2: each byte that is a character, in dialects of each Delim, and of Quotes enough, the usual one among them; but where the 1 isn't plain.
func TestEachByteReadAsItStands(t *testing.T) {
	samples.EachDialect(func(d api.Dialect) {
		if d.Delim == '1' || d.Quote == '1' || d.Quote%8 != 2 {
			return
		}
		for b := range 128 {
			checkRead(t, d, []string{string([]byte{'1', byte(b)}), string([]byte{byte(b)})})
		}
	})
}

// P8.1: the chapter's example.
func TestExample(t *testing.T) {
	d := api.Dialect{Delim: ',', Quote: '"', End: api.LF}
	if got := Fields(d, []string{""}, false); !slices.Equal(got, []bool{true}) {
		t.Error(got)
	}
	if got := Fields(d, []string{"", ""}, false); !slices.Equal(got, []bool{false, false}) {
		t.Error(got)
	}
}

// P8.1: a Reason is what Why answers.
func TestReason(t *testing.T) {
	var reason Reason = Why(api.Dialect{Delim: ',', Quote: '"', End: api.LF}, "\"", false, false)
	if reason != 2 {
		t.Error(reason)
	}
}

// P1, P8.1, P8.2: any fields at all.
func FuzzFields(f *testing.F) {
	f.Add(byte(','), byte('"'), 1, "a", "")
	f.Add(byte(';'), byte('\''), 2, "\ufeff", "it's")
	f.Add(byte(0), byte(127), 3, "\r\n", "\xff")
	f.Fuzz(func(t *testing.T, delim, quote byte, end int, one, other string) {
		d := api.Dialect{Delim: delim, Quote: quote, End: end}
		right := max(delim, quote) < 128 && delim != quote && !strings.ContainsAny(string([]byte{delim, quote}), "\r\n1") && slices.Contains(samples.Ends(), end)
		if !right {
			return
		}
		for _, r := range [][]string{{one}, {one, other}, {other, one, other}} {
			check(t, d, one)
			checkFields(t, d, r)
			if utf8.ValidString(one) && utf8.ValidString(other) {
				checkRead(t, d, r)
			}
		}
	})
}
