package fields

import (
	"math"
	"slices"
	"strings"
	"testing"

	"quillpen/api"
	"quillpen/scan"
)

// model is a maker as the chapter's sentences say it: all that was handed out is kept, and what is asked is found from it.
type model struct {
	l       api.Limits
	begun   int
	field   string
	record  []string
	out     [][]string
	stopped api.Errno
}

// part is one part of an event, in the chapter's order, with what the chapter says of it.
type part struct {
	has bool
	do  func(m model, b byte) (model, api.Errno)
}

func parts(e scan.Event) []part {
	return []part{
		{e.Begin, func(m model, _ byte) (model, api.Errno) {
			if m.begun == m.l.Records {
				return m, api.ErrRecords
			}
			m.begun++
			return m, api.OK
		}},
		{e.Add, func(m model, b byte) (model, api.Errno) {
			if len(m.field) == m.l.Field {
				return m, api.ErrField
			}
			m.field += string([]byte{b})
			return m, api.OK
		}},
		{e.Field, func(m model, _ byte) (model, api.Errno) {
			m = m.put()
			switch {
			case len(m.record) >= m.l.Fields:
				return m, api.ErrFields
			case m.l.Uniform && len(m.out) > 0 && len(m.record) == len(m.out[0]):
				return m, api.ErrWidth
			}
			return m, api.OK
		}},
		{e.Line, func(m model, _ byte) (model, api.Errno) {
			m = m.put()
			if m.l.Uniform && len(m.out) > 0 && len(m.record) != len(m.out[0]) {
				return m, api.ErrWidth
			}
			return m, api.OK
		}},
		{e.Record, func(m model, _ byte) (model, api.Errno) {
			m.out = append(slices.Clone(m.out), m.record)
			m.record = nil
			return m, api.OK
		}},
	}
}

func (m model) put() model {
	m.record = append(slices.Clone(m.record), m.field)
	m.field = ""
	return m
}

// take does the parts that an event has, till one goes wrong.
func (m model) take(e scan.Event) (model, took) {
	if m.stopped != api.OK {
		return m, took{e: m.stopped}
	}
	for _, p := range parts(e) {
		if !p.has {
			continue
		}
		if m, m.stopped = p.do(m, e.B); m.stopped != api.OK {
			return m, took{e: m.stopped}
		}
	}
	if e.Record {
		return m, took{record: m.out[len(m.out)-1], is: true}
	}
	return m, took{}
}

// took is all that Take answers.
type took struct {
	record []string
	is     bool
	e      api.Errno
}

// sameList holds two lists against each other; an empty one has to be nil.
func sameList(a, b []string) bool {
	return slices.Equal(a, b) && (a == nil) == (b == nil)
}

func (a took) equal(b took) bool {
	return sameList(a.record, b.record) && a.is == b.is && a.e == b.e
}

func maker(t *testing.T, l api.Limits) *Maker {
	t.Helper()
	m, e := New(l)
	if m == nil || e != api.OK {
		t.Fatalf("New(%v) = %v, %d", l, m, e)
	}
	return m
}

// checkState holds all that a maker tells against the model.
func checkState(t *testing.T, m *Maker, want model, behind []scan.Event) {
	t.Helper()
	record, field := m.Open()
	if !sameList(record, want.record) || field != want.field {
		t.Fatalf("limits %v, behind %v: Open() = %q, %q; want %q, %q", want.l, behind, record, field, want.record, want.field)
	}
	if m.Count() != len(want.out) || m.Begun() != want.begun || m.Stopped() != want.stopped {
		t.Fatalf("limits %v, behind %v: Count() = %d, Begun() = %d, Stopped() = %d; want %d, %d, %d", want.l, behind, m.Count(), m.Begun(), m.Stopped(), len(want.out), want.begun, want.stopped)
	}
}

// checkEvents hands events to a maker, and holds all that it tells against the model, behind each of them.
func checkEvents(t *testing.T, l api.Limits, events []scan.Event) {
	t.Helper()
	m, want := maker(t, l), model{l: l}
	checkState(t, m, want, nil)
	for i, e := range events {
		var got, wanted took
		got.record, got.is, got.e = m.Take(e)
		want, wanted = want.take(e)
		if !got.equal(wanted) {
			t.Fatalf("limits %v, events %v: %d: Take = %v; want %v", l, events, i, got, wanted)
		}
		checkState(t, m, want, events[:i+1])
	}
}

// eachSeries hands on all series of these events, as long as is asked for.
func eachSeries(choice []scan.Event, long int, see func(events []scan.Event)) {
	events := make([]scan.Event, long)
	var fill func(i int)
	fill = func(i int) {
		if i == long {
			see(events)
			return
		}
		for _, e := range choice {
			events[i] = e
			fill(i + 1)
		}
	}
	fill(0)
}

// anyEvents are the events with any parts, those too that no text comes to.
func anyEvents() []scan.Event {
	var l []scan.Event
	for i := range 32 {
		l = append(l, scan.Event{Begin: i&1 > 0, Add: i&2 > 0, Field: i&4 > 0, Line: i&8 > 0, Record: i&16 > 0, B: 'a' + byte(i)})
	}
	return l
}

// eachLimits hands on small limits.
func eachLimits(most int, see func(l api.Limits)) {
	for field := 1; field <= most; field++ {
		for fields := 1; fields <= most; fields++ {
			for records := 1; records <= most; records++ {
				for _, uniform := range []bool{false, true} {
					see(api.Limits{Field: field, Fields: fields, Records: records, Uniform: uniform})
				}
			}
		}
	}
}

var (
	begin  = scan.Event{Begin: true}
	field  = scan.Event{Field: true}
	line   = scan.Event{Line: true}
	record = scan.Event{Record: true}
	last   = scan.Event{Line: true, Record: true}
)

func add(b byte) scan.Event { return scan.Event{Add: true, B: b} }

// P5.1: New refuses limits that aren't right, and takes those at their edges.
func TestNew(t *testing.T) {
	numbers := []int{math.MinInt, -1, 0, 1, 2, api.MaxLimit - 1, api.MaxLimit, api.MaxLimit + 1, math.MaxInt}
	right := func(n int) bool { return 1 <= n && n <= api.MaxLimit }
	for _, f := range numbers {
		for _, n := range numbers {
			for _, r := range numbers {
				for _, uniform := range []bool{false, true} {
					l := api.Limits{Field: f, Fields: n, Records: r, Uniform: uniform}
					m, e := New(l)
					if right(f) && right(n) && right(r) {
						if m == nil || e != api.OK {
							t.Fatal(l, m, e)
						}
						checkState(t, m, model{l: l}, nil)
						continue
					}
					if m != nil || e != api.ErrLimits {
						t.Fatal(l, m, e)
					}
				}
			}
		}
	}
}

// P5.1: all series of up to three events with any parts, in all limits of up to 2.
func TestAnyEvents(t *testing.T) {
	eachLimits(2, func(l api.Limits) {
		for long := range 4 {
			eachSeries(anyEvents(), long, func(events []scan.Event) { checkEvents(t, l, events) })
		}
	})
}

// P5.1: longer series, of the parts one by one and of those that texts come to.
func TestLongerSeries(t *testing.T) {
	eachLimits(3, func(l api.Limits) {
		eachSeries([]scan.Event{begin, add('a'), field, line, record}, 5, func(events []scan.Event) { checkEvents(t, l, events) })
		eachSeries([]scan.Event{{Begin: true, Add: true, B: 'x'}, add('y'), field, last}, 6, func(events []scan.Event) { checkEvents(t, l, events) })
	})
}

// P5.1: widths, where records of up to three fields follow each other, as lines end at once or in two steps.
func TestWidths(t *testing.T) {
	for _, uniform := range []bool{false, true} {
		for long := range 7 {
			l := api.Limits{Field: 1, Fields: 3, Records: 9, Uniform: uniform}
			eachSeries([]scan.Event{field, last, line, record}, long, func(events []scan.Event) {
				checkEvents(t, l, slices.Concat([]scan.Event{field, last}, events))
				checkEvents(t, l, slices.Concat([]scan.Event{last}, events))
				checkEvents(t, l, slices.Concat([]scan.Event{record}, events))
			})
		}
	}
}

// P5.1: what each error leaves, and the events behind it.
func TestErrors(t *testing.T) {
	for _, c := range []struct {
		name   string
		l      api.Limits
		events []scan.Event
		e      api.Errno
		begun  int
		count  int
		record []string
		field  string
	}{
		{"a record too many", api.Limits{Field: 9, Fields: 9, Records: 1}, []scan.Event{begin, last, {Begin: true, Add: true, B: 'a', Field: true}}, api.ErrRecords, 1, 1, nil, ""},
		{"a byte too many", api.Limits{Field: 1, Fields: 9, Records: 9}, []scan.Event{add('a'), {Begin: true, Add: true, B: 'b', Field: true}}, api.ErrField, 1, 0, nil, "a"},
		{"a field too many", api.Limits{Field: 9, Fields: 1, Records: 9}, []scan.Event{{Begin: true, Add: true, B: 'b', Field: true, Line: true, Record: true}}, api.ErrFields, 1, 0, []string{"b"}, ""},
		{"fields beyond those that may be", api.Limits{Field: 9, Fields: 1, Records: 9}, []scan.Event{line, line, field}, api.ErrFields, 0, 0, []string{"", "", ""}, ""},
		{"lines aren't fields too many", api.Limits{Field: 9, Fields: 1, Records: 9}, []scan.Event{line, line, last}, api.OK, 0, 1, nil, ""},
		{"wider than the first one", api.Limits{Field: 9, Fields: 9, Records: 9, Uniform: true}, []scan.Event{last, add('x'), field}, api.ErrWidth, 0, 1, []string{"x"}, ""},
		{"narrower than the first one", api.Limits{Field: 9, Fields: 9, Records: 9, Uniform: true}, []scan.Event{field, last, add('x'), last}, api.ErrWidth, 0, 1, []string{"x"}, ""},
		{"the fields ahead of the width", api.Limits{Field: 9, Fields: 2, Records: 9, Uniform: true}, []scan.Event{field, last, field, field}, api.ErrFields, 0, 1, []string{"", ""}, ""},
		{"any width without Uniform", api.Limits{Field: 9, Fields: 9, Records: 9}, []scan.Event{last, field, last, last}, api.OK, 0, 3, nil, ""},
		{"the width is the first one's", api.Limits{Field: 9, Fields: 9, Records: 9, Uniform: true}, []scan.Event{record, record, field, field, line}, api.ErrWidth, 0, 2, []string{"", "", ""}, ""},
		{"the width is asked at Field and Line only", api.Limits{Field: 9, Fields: 9, Records: 9, Uniform: true}, []scan.Event{last, record, last}, api.OK, 0, 3, nil, ""},
	} {
		t.Run(c.name, func(t *testing.T) {
			checkEvents(t, c.l, c.events)
			m := maker(t, c.l)
			for _, e := range c.events {
				m.Take(e)
			}
			behind := []scan.Event{}
			if c.e != api.OK {
				behind = anyEvents()
			}
			for i := range len(behind) + 1 {
				record, field := m.Open()
				if !sameList(record, c.record) || field != c.field || m.Begun() != c.begun || m.Count() != c.count || m.Stopped() != c.e {
					t.Fatal(i, record, field, m.Begun(), m.Count(), m.Stopped())
				}
				if i < len(behind) {
					if record, is, e := m.Take(behind[i]); record != nil || is || e != c.e {
						t.Fatal(behind[i], record, is, e)
					}
				}
			}
		})
	}
}

// P5.1: the chapter's example.
func TestExample(t *testing.T) {
	m := maker(t, api.Limits{Field: 2, Fields: 9, Records: 9})
	for i, e := range []scan.Event{{Begin: true, Add: true, B: 'a'}, add('b'), add('c')} {
		record, is, e := m.Take(e)
		if want := []api.Errno{api.OK, api.OK, api.ErrField}[i]; record != nil || is || e != want {
			t.Error(i, record, is, e)
		}
	}
}

// P5.1: what texts come to; a byte is kept as it is, whichever it is.
func TestTexts(t *testing.T) {
	every := make([]byte, 256)
	for i := range every {
		every[i] = byte(i)
	}
	quoted := "\"" + strings.ReplaceAll(string(every), "\"", "\"\"") + "\""
	wide := strings.Repeat("a,", 2000) + quoted + "\n"
	for _, s := range []string{"", "a,b\n\n,\nc", quoted, wide + wide + "a\n", wide + "a," + wide} {
		events, fault := scan.Run(api.Dialect{Delim: ',', Quote: '"', End: api.LF}, s)
		if fault != (api.Fault{}) {
			t.Fatal(s, fault)
		}
		for _, l := range []api.Limits{{Field: 256, Fields: 2001, Records: 2}, {Field: 255, Fields: 2001, Records: 2}, {Field: 256, Fields: 2000, Records: 2}, {Field: 256, Fields: 2001, Records: 1}, {Field: api.MaxLimit, Fields: api.MaxLimit, Records: api.MaxLimit, Uniform: true}} {
			checkText(t, l, events)
		}
	}
}

// checkText is checkEvents for many events: Open is asked at the end only.
func checkText(t *testing.T, l api.Limits, events []scan.Event) {
	t.Helper()
	m, want := maker(t, l), model{l: l}
	for i, e := range events {
		var got, wanted took
		got.record, got.is, got.e = m.Take(e)
		want, wanted = want.take(e)
		if !got.equal(wanted) {
			t.Fatalf("limits %v: %d: Take = %v; want %v", l, i, got, wanted)
		}
	}
	checkState(t, m, want, nil)
}

// P5.1: many records are counted; a record of another width stops at any distance from the first one.
func TestManyRecords(t *testing.T) {
	m := maker(t, api.Limits{Field: 1, Fields: 2, Records: 100000, Uniform: true})
	row := []scan.Event{{Begin: true, Add: true, B: 'a'}, field, last}
	for i := range 100000 {
		for _, e := range row {
			m.Take(e)
		}
		if m.Count() != i+1 || m.Begun() != i+1 || m.Stopped() != api.OK {
			t.Fatal(i, m.Count(), m.Begun(), m.Stopped())
		}
	}
	if _, _, e := m.Take(last); e != api.ErrWidth {
		t.Error(e)
	}
}

// Whoever writes into an answer, or puts something behind it, changes no other answer and not the maker.
func TestAnswersShareNothing(t *testing.T) {
	m := maker(t, api.Limits{Field: 9, Fields: 9, Records: 9})
	var handed [][]string
	for _, b := range []byte("abc") {
		for _, e := range []scan.Event{{Begin: true, Add: true, B: b}, field, add(b), field, add(b), line} {
			m.Take(e)
		}
		first, _ := m.Open()
		second, _ := m.Open()
		first[0], first = "spoilt", append(first[:1], "spoilt", "spoilt", "spoilt")
		if want := []string{string(b), string(b), string(b)}; !slices.Equal(second, want) {
			t.Fatal(second, first)
		}
		record, _, _ := m.Take(record)
		handed = append(handed, record)
	}
	for i, b := range []string{"a", "b", "c"} {
		if !slices.Equal(handed[i], []string{b, b, b}) {
			t.Error(i, handed[i])
		}
		handed[i] = append(handed[i][:0], "spoilt", "spoilt", "spoilt", "spoilt", "spoilt")
	}
	m.Take(add('d'))
	m.Take(field)
	m.Take(add('e'))
	for range 2 {
		if record, field := m.Open(); !slices.Equal(record, []string{"d"}) || field != "e" {
			t.Error(record, field)
		}
	}
}

// Two makers have nothing to do with each other.
func TestTwoMakers(t *testing.T) {
	l := api.Limits{Field: 1, Fields: 1, Records: 1}
	one, other := maker(t, l), maker(t, l)
	one.Take(scan.Event{Begin: true, Add: true, B: 'a', Field: true})
	checkState(t, other, model{l: l}, nil)
	if one.Stopped() != api.ErrFields {
		t.Error(one.Stopped())
	}
}

// P1: a maker that New didn't make doesn't panic.
func TestMakerWithoutLimits(t *testing.T) {
	for _, e := range anyEvents() {
		var m Maker
		m.Take(e)
		m.Take(e)
		m.Open()
		m.Count()
		m.Begun()
		m.Stopped()
	}
}

func FuzzMaker(f *testing.F) {
	f.Add([]byte{3, 2, 4, 2, 24}, 2, 2, 2, true)
	f.Add([]byte{16, 8, 12, 31, 0}, 1, 3, 9, false)
	f.Fuzz(func(t *testing.T, kinds []byte, field, fields, records int, uniform bool) {
		l := api.Limits{Field: field&7 + 1, Fields: fields&7 + 1, Records: records&7 + 1, Uniform: uniform}
		choice := anyEvents()
		var events []scan.Event
		for _, kind := range kinds {
			e := choice[kind&31]
			e.B = kind
			events = append(events, e)
		}
		checkEvents(t, l, events)
	})
}
