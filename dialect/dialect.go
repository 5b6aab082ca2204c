// Package dialect is layer 1: which bytes part and quote fields, how lines end, and how much may come: see shared/doc/01-dialect.md.
package dialect

import (
	"strings"

	"quillpen/api"
)

// The digits are small ones only, so that a dialect has a single text.
const hexDigits = "0123456789abcdef"

// Check tells what is wrong with a dialect.
func Check(d api.Dialect) api.Errno {
	if !mayMark(d.Delim) || !mayMark(d.Quote) || d.Delim == d.Quote || endWord(d.End) == "" {
		return api.ErrDialect
	}
	return api.OK
}

// CheckLimits tells what is wrong with limits.
func CheckLimits(l api.Limits) api.Errno {
	for _, n := range [...]int{l.Field, l.Fields, l.Records} {
		if n < 1 || n > api.MaxLimit {
			return api.ErrLimits
		}
	}
	return api.OK
}

// End is the end of line that a dialect writes; a dialect that isn't right has none.
func End(d api.Dialect) string {
	if Check(d) != api.OK {
		return ""
	}
	if d.End == api.CRLF {
		return "\r\n"
	}
	return "\n"
}

// Text is a dialect's text.
func Text(d api.Dialect) (string, api.Errno) {
	if e := Check(d); e != api.OK {
		return "", e
	}
	return hexText(d.Delim) + " " + hexText(d.Quote) + " " + endWord(d.End), api.OK
}

// Parse is the dialect of a text.
func Parse(s string) (api.Dialect, api.Errno) {
	delimText, rest, _ := strings.Cut(s, " ")
	quoteText, word, _ := strings.Cut(rest, " ")
	delim, delimOK := hexByte(delimText)
	quote, quoteOK := hexByte(quoteText)
	end, endOK := endOf(word)
	if !delimOK || !quoteOK || !endOK {
		return api.Dialect{}, api.ErrForm
	}
	d := api.Dialect{Delim: delim, Quote: quote, End: end}
	if e := Check(d); e != api.OK {
		return api.Dialect{}, e
	}
	return d, api.OK
}

// Wide is the greatest limits.
func Wide() api.Limits {
	return api.Limits{Field: api.MaxLimit, Fields: api.MaxLimit, Records: api.MaxLimit}
}

// mayMark tells whether a byte may be a Delim or a Quote. One of 80 or more could stand within a character of UTF-8, one of a line's end would end it.
func mayMark(b byte) bool {
	return b < 0x80 && b != '\r' && b != '\n'
}

// endWord is the word of an End, or nothing, if there is no such End.
func endWord(end int) string {
	switch end {
	case api.LF:
		return "lf"
	case api.CRLF:
		return "crlf"
	case api.Either:
		return "either"
	}
	return ""
}

// endOf is the End of a word.
func endOf(word string) (int, bool) {
	switch word {
	case "lf":
		return api.LF, true
	case "crlf":
		return api.CRLF, true
	case "either":
		return api.Either, true
	}
	return 0, false
}

// hexText is a byte as two digits.
func hexText(b byte) string {
	return string([]byte{hexDigits[b>>4], hexDigits[b&15]})
}

// hexByte is the byte of two digits.
func hexByte(s string) (byte, bool) {
	if len(s) != 2 {
		return 0, false
	}
	high := strings.IndexByte(hexDigits, s[0])
	low := strings.IndexByte(hexDigits, s[1])
	if high < 0 || low < 0 {
		return 0, false
	}
	return byte(high<<4 | low), true
}
