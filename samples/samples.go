// Package samples is what the tests of several layers try: dialects, and lists and texts made of what matters.
package samples

import "quillpen/api"

// Ends is all ends of lines.
func Ends() []int { return []int{api.LF, api.CRLF, api.Either} }

// Dialects has Delims and Quotes that are usual ones, changed places, letters, blanks, and the edges of what may be.
func Dialects() []api.Dialect {
	var all []api.Dialect
	for _, pair := range []string{",\"", "\",", ";'", "\t\"", " a", "a ", "\x00\x7f", "\x7f\x00", "\x0b\x0c", "\x09\x0e"} {
		for _, end := range Ends() {
			all = append(all, api.Dialect{Delim: pair[0], Quote: pair[1], End: end})
		}
	}
	return all
}

// EachDialect hands on all dialects that are right.
func EachDialect(see func(d api.Dialect)) {
	for delim := range 128 {
		for quote := range 128 {
			if delim == quote || delim == '\n' || delim == '\r' || quote == '\n' || quote == '\r' {
				continue
			}
			for _, end := range Ends() {
				see(api.Dialect{Delim: byte(delim), Quote: byte(quote), End: end})
			}
		}
	}
}

// LineEnds is all ends of line that are read in a dialect.
func LineEnds(d api.Dialect) []string {
	switch d.End {
	case api.LF:
		return []string{"\n"}
	case api.CRLF:
		return []string{"\r\n"}
	}
	return []string{"\n", "\r\n"}
}

// EachList hands on all lists of these things, up to a length; the same list each time.
func EachList[T any](things []T, long int, see func(list []T)) {
	var list []T
	var more func()
	more = func() {
		see(list)
		if len(list) == long {
			return
		}
		for _, thing := range things {
			list = append(list, thing)
			more()
			list = list[:len(list)-1]
		}
	}
	more()
}

// EachText hands on all texts of these bytes, up to a length.
func EachText(bytes []byte, long int, see func(s string)) {
	EachList(bytes, long, func(text []byte) { see(string(text)) })
}
