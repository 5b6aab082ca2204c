package samples

import (
	"slices"
	"testing"

	"quillpen/api"
	"quillpen/dialect"
)

// The dialects are those that layer 1 calls right, all of them, each once.
func TestEachDialect(t *testing.T) {
	seen := map[api.Dialect]bool{}
	EachDialect(func(d api.Dialect) {
		if e := dialect.Check(d); e != api.OK || seen[d] {
			t.Fatal(d, e)
		}
		seen[d] = true
	})
	if want := 126 * 125 * 3; len(seen) != want {
		t.Errorf("%d dialects, want %d", len(seen), want)
	}
	for _, d := range Dialects() {
		if !seen[d] {
			t.Error(d)
		}
	}
}

// The lists are all there are, the shorter one ahead of those that go on.
func TestEachList(t *testing.T) {
	var got []string
	EachText([]byte("ab"), 2, func(s string) { got = append(got, s) })
	if want := []string{"", "a", "aa", "ab", "b", "ba", "bb"}; !slices.Equal(got, want) {
		t.Errorf("%q, want %q", got, want)
	}
}
