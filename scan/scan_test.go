package scan

import (
	"math"
	"strings"
	"testing"

	"quillpen/api"
)

// The columns of the chapter's table.
const (
	atQuoteByte = iota
	atDelim
	atReturn
	atFeed
	atOther
)

// The chapter's table, as it stands there: what a byte comes to and the state then, or the error.
var table = [7][5]string{
	Start:   {"Begin; Quoted", "Begin, Field; First", "Blank", "Start", "Begin, Add; Bare"},
	First:   {"Quoted", "Field; First", "Line; Pending", "Line, Record; Start", "Add; Bare"},
	Bare:    {"ErrQuote", "Field; First", "Line; Pending", "Line, Record; Start", "Add; Bare"},
	Quoted:  {"Closing", "Add; Quoted", "Add; Quoted", "Add; Quoted", "Add; Quoted"},
	Closing: {"Add; Quoted", "Field; First", "Line; Pending", "Line, Record; Start", "ErrAfter"},
	Pending: {"ErrEnd", "ErrEnd", "ErrEnd", "Record; Start", "ErrEnd"},
	Blank:   {"ErrEnd", "ErrEnd", "ErrEnd", "Start", "ErrEnd"},
}

var stateNames = []string{"Start", "First", "Bare", "Quoted", "Closing", "Pending", "Blank"}

var errorNames = map[string]api.Errno{"ErrQuote": api.ErrQuote, "ErrAfter": api.ErrAfter, "ErrEnd": api.ErrEnd, "ErrOpen": api.ErrOpen}

// stepped is all that Step answers.
type stepped struct {
	event Event
	state int
	e     api.Errno
}

func columnOf(d api.Dialect, b byte) int {
	switch b {
	case d.Quote:
		return atQuoteByte
	case d.Delim:
		return atDelim
	case '\r':
		return atReturn
	case '\n':
		return atFeed
	}
	return atOther
}

// endIsBarred is the sentence beneath the table.
func endIsBarred(d api.Dialect, state, column int) bool {
	if state == Quoted || state == Pending || state == Blank {
		return false
	}
	return column == atReturn && d.End == api.LF || column == atFeed && d.End == api.CRLF
}

// eventOf reads the words of an event.
func eventOf(words string, b byte) Event {
	var e Event
	for word := range strings.SplitSeq(words, ", ") {
		switch word {
		case "Begin":
			e.Begin = true
		case "Add":
			e.Add, e.B = true, b
		case "Field":
			e.Field = true
		case "Line":
			e.Line = true
		case "Record":
			e.Record = true
		default:
			panic(word)
		}
	}
	return e
}

func stateOf(name string) int {
	for i, s := range stateNames {
		if s == name {
			return i
		}
	}
	panic(name)
}

// wantStep reads the table.
func wantStep(d api.Dialect, state int, b byte) stepped {
	column := columnOf(d, b)
	if endIsBarred(d, state, column) {
		return stepped{e: api.ErrEnd}
	}
	place := table[state][column]
	if e, is := errorNames[place]; is {
		return stepped{e: e}
	}
	words, name, two := strings.Cut(place, "; ")
	if !two {
		return stepped{state: stateOf(place)}
	}
	return stepped{event: eventOf(words, b), state: stateOf(name)}
}

// wantClose is what the chapter says of the end.
func wantClose(state int) (Event, api.Errno) {
	switch stateNames[state] {
	case "Start":
		return Event{}, api.OK
	case "First", "Bare", "Closing":
		return Event{Line: true, Record: true}, api.OK
	case "Quoted":
		return Event{}, api.ErrOpen
	}
	return Event{}, api.ErrEnd
}

// wantRun goes through the table byte by byte.
func wantRun(d api.Dialect, s string) ([]Event, api.Fault) {
	var l []Event
	state := 0
	for i := range len(s) {
		w := wantStep(d, state, s[i])
		if w.e != api.OK {
			return l, api.Fault{Kind: w.e, At: i}
		}
		l, state = append(l, w.event), w.state
	}
	end, e := wantClose(state)
	if e != api.OK {
		return l, api.Fault{Kind: e, At: len(s)}
	}
	return append(l, end), api.Fault{}
}

func equalEvents(a, b []Event) bool {
	if len(a) != len(b) || (a == nil) != (b == nil) {
		return false
	}
	for i := range a {
		if a[i] != b[i] {
			return false
		}
	}
	return true
}

func checkRun(t *testing.T, d api.Dialect, s string) {
	t.Helper()
	want, wantFault := wantRun(d, s)
	got, fault := Run(d, s)
	if !equalEvents(got, want) || fault != wantFault {
		t.Fatalf("Run(%v, %q) = %v, %v; want %v, %v", d, s, got, fault, want, wantFault)
	}
}

// commas is the usual dialect, with this end.
func commas(end int) api.Dialect {
	return api.Dialect{Delim: ',', Quote: '"', End: end}
}

// eachText hands on all texts of these bytes, as long as is asked for.
func eachText(bytes string, long int, see func(s string)) {
	text := make([]byte, long)
	var fill func(i int)
	fill = func(i int) {
		if i == long {
			see(string(text))
			return
		}
		for _, b := range []byte(bytes) {
			text[i] = b
			fill(i + 1)
		}
	}
	fill(0)
}

// The dialects that are right are those whose two bytes are below 80 and no carriage return or line feed.
func eachDialect(see func(d api.Dialect)) {
	for delim := range 0x80 {
		for quote := range 0x80 {
			if delim == quote || strings.ContainsAny(string([]byte{byte(delim), byte(quote)}), "\r\n") {
				continue
			}
			for _, end := range []int{api.LF, api.CRLF, api.Either} {
				see(api.Dialect{Delim: byte(delim), Quote: byte(quote), End: end})
			}
		}
	}
}

// P4.1: the constants are the chapter's numbers.
func TestStates(t *testing.T) {
	for i, state := range []int{Start, First, Bare, Quoted, Closing, Pending, Blank} {
		if state != i {
			t.Errorf("%s is %d, want %d", stateNames[i], state, i)
		}
	}
}

// P4.1: Step, in every state, at every byte, with every end of line.
func TestStep(t *testing.T) {
	dialects := []api.Dialect{}
	for _, end := range []int{api.LF, api.CRLF, api.Either} {
		dialects = append(dialects, commas(end), api.Dialect{Delim: '\t', Quote: '\'', End: end}, api.Dialect{Delim: 0, Quote: 0x7f, End: end}, api.Dialect{Delim: '"', Quote: ',', End: end}, api.Dialect{Delim: 'a', Quote: 0, End: end})
	}
	for _, d := range dialects {
		for state := range 7 {
			for i := range 256 {
				b := byte(i)
				want := wantStep(d, state, b)
				if event, next, e := Step(d, state, b); (stepped{event, next, e}) != want {
					t.Errorf("Step(%v, %s, %x) = %v, %d, %d; want %v", d, stateNames[state], b, event, next, e, want)
				}
			}
		}
	}
}

// P4.1: Step, in every dialect there is, at each kind of byte.
func TestStepInEachDialect(t *testing.T) {
	eachDialect(func(d api.Dialect) {
		for state := range 7 {
			for _, b := range []byte{d.Delim, d.Quote, '\r', '\n', ',', '"', 0x80, 0xff} {
				want := wantStep(d, state, b)
				if event, next, e := Step(d, state, b); (stepped{event, next, e}) != want {
					t.Fatalf("Step(%v, %s, %x) = %v, %d, %d; want %v", d, stateNames[state], b, event, next, e, want)
				}
			}
		}
	})
}

// P4.1: Close, in every state.
func TestClose(t *testing.T) {
	for state := range 7 {
		want, wantErr := wantClose(state)
		if event, e := Close(state); event != want || e != wantErr {
			t.Errorf("Close(%s) = %v, %d; want %v, %d", stateNames[state], event, e, want, wantErr)
		}
	}
}

// P4.1: Run, over all short texts of each kind of byte.
func TestRunOfShortTexts(t *testing.T) {
	for _, end := range []int{api.LF, api.CRLF, api.Either} {
		for long := range 8 {
			eachText("a,\"\r\n", long, func(s string) { checkRun(t, commas(end), s) })
		}
		for long := range 6 {
			eachText("\x00\x7f\"\xff\r\n", long, func(s string) { checkRun(t, api.Dialect{Delim: 0, Quote: 0x7f, End: end}, s) })
		}
	}
}

// P4.1: Run, where an error stands at the beginning, within, and at the end; what came to something ahead of it is told.
func TestRunWithErrors(t *testing.T) {
	begun := []Event{{Begin: true, Add: true, B: 'a'}}
	for _, c := range []struct {
		d     api.Dialect
		s     string
		want  []Event
		fault api.Fault
	}{
		{commas(api.LF), "\r", nil, api.Fault{Kind: api.ErrEnd, At: 0}},
		{commas(api.CRLF), "\n", nil, api.Fault{Kind: api.ErrEnd, At: 0}},
		{commas(api.LF), "a\"b", begun, api.Fault{Kind: api.ErrQuote, At: 1}},
		{commas(api.LF), "a\r\n", begun, api.Fault{Kind: api.ErrEnd, At: 1}},
		{commas(api.CRLF), "a\n", begun, api.Fault{Kind: api.ErrEnd, At: 1}},
		{commas(api.Either), "\"a\"a", []Event{{Begin: true}, {Add: true, B: 'a'}, {}}, api.Fault{Kind: api.ErrAfter, At: 3}},
		{commas(api.Either), "\"a", []Event{{Begin: true}, {Add: true, B: 'a'}}, api.Fault{Kind: api.ErrOpen, At: 2}},
		{commas(api.Either), "a\r", append(begun[:1:1], Event{Line: true}), api.Fault{Kind: api.ErrEnd, At: 2}},
		{commas(api.Either), "a\ra", append(begun[:1:1], Event{Line: true}), api.Fault{Kind: api.ErrEnd, At: 2}},
		{commas(api.Either), "\r", []Event{{}}, api.Fault{Kind: api.ErrEnd, At: 1}},
		{commas(api.Either), "\r\r", []Event{{}}, api.Fault{Kind: api.ErrEnd, At: 1}},
	} {
		if got, fault := Run(c.d, c.s); !equalEvents(got, c.want) || fault != c.fault {
			t.Errorf("Run(%v, %q) = %v, %v; want %v, %v", c.d, c.s, got, fault, c.want, c.fault)
		}
	}
}

// P4.1: the chapter's example, and a text that comes to nothing but its end.
func TestExamples(t *testing.T) {
	want := []Event{{Begin: true, Add: true, B: 'a'}, {Line: true, Record: true}, {}}
	if got, fault := Run(commas(api.LF), "a\n"); !equalEvents(got, want) || fault != (api.Fault{}) {
		t.Error(got, fault)
	}
	if got, fault := Run(commas(api.LF), ""); !equalEvents(got, []Event{{}}) || fault != (api.Fault{}) {
		t.Error(got, fault)
	}
}

// P4.1: long texts, whole ones and ones that go wrong late.
func TestLongTexts(t *testing.T) {
	long := strings.Repeat("a,\"b\"\"\r\n,c\",\n\n,,\xe2\x82\xac\r\n\r\n", 3000)
	for _, tail := range []string{"", "a", "\"", "\"\"", "\r", "a\r", "a\"", "\"a\"a", ","} {
		checkRun(t, commas(api.Either), long+tail)
		checkRun(t, commas(api.Either), long+tail+long)
	}
}

// P3: a text's second part, stepped on from the state behind the first, comes to what it comes to at once.
func TestPieces(t *testing.T) {
	d := commas(api.Either)
	for long := range 6 {
		eachText("a,\"\r\n", long, func(s string) {
			want, fault := Run(d, s)
			var got []Event
			state, e := Start, api.OK
			for i := range len(s) {
				var event Event
				if event, state, e = Step(d, state, s[i]); e != api.OK {
					break
				}
				got = append(got, event)
			}
			if e == api.OK {
				var event Event
				if event, e = Close(state); e == api.OK {
					got = append(got, event)
				}
			}
			if !equalEvents(got, want) || e != fault.Kind {
				t.Fatalf("%q: by steps %v, %d; at once %v, %v", s, got, e, want, fault)
			}
		})
	}
}

// P1: what is no state and no right dialect doesn't panic; behind no state there is nothing.
func TestWrongArguments(t *testing.T) {
	for _, state := range []int{-1, 7, 8, 256, 1 << 32, math.MaxInt, math.MinInt} {
		for i := range 256 {
			if event, next, e := Step(commas(api.Either), state, byte(i)); event != (Event{}) || next != 0 || e != api.OK {
				t.Fatal(state, i, event, next, e)
			}
		}
		if event, e := Close(state); event != (Event{}) || e != api.OK {
			t.Error(state, event, e)
		}
	}
	for _, d := range []api.Dialect{{}, {Delim: ',', Quote: ','}, {Delim: '\n', Quote: '\r', End: -1}, {Delim: 0xff, Quote: 0x80, End: 4}} {
		for long := range 5 {
			eachText("a,\"\r\n\x00\xff", long, func(s string) { Run(d, s) })
		}
	}
}

func FuzzRun(f *testing.F) {
	for _, s := range []string{"", "a,\"b\"\"c\"\n", "a\"b", "\"a", "\r\n\r", "a\r\nb"} {
		f.Add(s, byte(','), byte('"'), 3)
	}
	f.Fuzz(func(t *testing.T, s string, delim, quote byte, end int) {
		d := api.Dialect{Delim: delim & 0x7f, Quote: quote & 0x7f, End: end&1 + 1 + end>>1&1}
		if d.Delim == d.Quote || strings.ContainsAny(string([]byte{d.Delim, d.Quote}), "\r\n") {
			return
		}
		checkRun(t, d, s)
	})
}
