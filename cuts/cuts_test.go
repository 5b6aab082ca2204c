package cuts

import (
	"iter"
	"math"
	"slices"
	"strings"
	"testing"

	"quillpen/api"
)

// eachList hands on all lists of these numbers, up to a length.
func eachList(numbers []int, long int, see func(list []int)) {
	var list []int
	var more func()
	more = func() {
		see(list)
		if len(list) == long {
			return
		}
		for _, n := range numbers {
			list = append(list, n)
			more()
			list = list[:len(list)-1]
		}
	}
	more()
}

// someTexts is short texts, the beginnings of one in which no byte stands twice; that isn't UTF-8.
func someTexts(long int) []string {
	const all = "a\xc3\xa9\"\x00,\n\xffbcdefghij"
	var out []string
	for n := range long + 1 {
		out = append(out, all[:n])
	}
	return out
}

// within holds a place within 0 and a text's length.
func within(place, length int) int {
	switch {
	case place < 0:
		return 0
	case place > length:
		return length
	}
	return place
}

// checkAt counts: as many pieces end at each place of the text as it is cut there, and the last one ends with it.
func checkAt(t *testing.T, s string, places []int) {
	t.Helper()
	given := slices.Clone(places)
	got := At(s, given...)
	if !slices.Equal(given, places) {
		t.Fatalf("At(%q, %v) writes into the places: %v", s, places, given)
	}
	if len(got) != len(places)+1 || strings.Join(got, "") != s || Join(got) != s {
		t.Fatalf("At(%q, %v) = %q", s, places, got)
	}
	wanted, ends, end := map[int]int{}, map[int]int{}, 0
	for i, place := range places {
		wanted[within(place, len(s))]++
		end += len(got[i])
		ends[end]++
	}
	for place := range len(s) + 1 {
		if wanted[place] != ends[place] {
			t.Fatalf("At(%q, %v) = %q: %d cuts at %d", s, places, got, ends[place], place)
		}
	}
}

// P7.1, P7.2: short texts, at all places within, at and beyond their edges, in any order, alike ones too.
func TestAt(t *testing.T) {
	for _, s := range someTexts(4) {
		numbers := []int{math.MinInt, -1, 0, 1, 2, 3, 4, 5, math.MaxInt}
		eachList(numbers, 4, func(places []int) { checkAt(t, s, places) })
	}
	for _, s := range someTexts(17) {
		eachList([]int{0, 7, 8, 16, 17}, 5, func(places []int) { checkAt(t, s, places) })
	}
}

// P7.1: no places, be it no list or an empty one, leave the text whole.
func TestAtNoPlaces(t *testing.T) {
	for _, s := range someTexts(3) {
		for _, got := range [][]string{At(s), At(s, nil...), At(s, []int{}...)} {
			if len(got) != 1 || got[0] != s {
				t.Errorf("At(%q) = %q", s, got)
			}
		}
	}
}

// P7.1: many places, far more than the text has.
func TestAtManyPlaces(t *testing.T) {
	s := strings.Repeat("abcde", 200)
	var places []int
	for i := range 5000 {
		places = append(places, (i*7919)%1201-100)
	}
	checkAt(t, s, places)
	checkAt(t, "", places)
}

// isCycle tells whether these are pieces of s of these sizes, over and over, the last of which may be less, but is something.
func isCycle(got []string, s string, sizes []int) bool {
	for i, piece := range got {
		size := max(0, sizes[i%len(sizes)])
		last := i == len(got)-1
		if !last && len(piece) != size || last && (piece == "" || len(piece) > size) {
			return false
		}
	}
	return strings.Join(got, "") == s
}

func checkBy(t *testing.T, s string, sizes []int) {
	t.Helper()
	given := slices.Clone(sizes)
	got := By(s, given...)
	if !slices.Equal(given, sizes) {
		t.Fatalf("By(%q, %v) writes into the sizes: %v", s, sizes, given)
	}
	whole := s == "" || !slices.ContainsFunc(sizes, func(size int) bool { return size > 0 })
	right := len(got) == 1 && got[0] == s
	if !whole {
		right = isCycle(got, s, sizes)
	}
	if !right || Join(got) != s {
		t.Fatalf("By(%q, %v) = %q", s, sizes, got)
	}
}

// P7.1, P7.2: short texts, by all sizes below, at and above 0 and their lengths.
func TestBy(t *testing.T) {
	for _, s := range someTexts(6) {
		numbers := []int{math.MinInt, -1, 0, 1, 2, 3, 6, 7, math.MaxInt}
		eachList(numbers, 4, func(sizes []int) { checkBy(t, s, sizes) })
	}
}

// P7.1: what a text is by sizes, written out.
func TestBySpelt(t *testing.T) {
	for _, c := range []struct {
		want string
		got  []string
	}{
		{"a|bc|d", By("abcd", 1, 2)},
		{"ab|c", By("abc", 2, 1)},
		{"ab|c", By("abc", 2, 1, 0, 0)},
		{"ab||c", By("abc", 2, 0)},
		{"||a|||b", By("ab", 0, -3, 1)},
		{"abc", By("abc", math.MaxInt, 1)},
		{"a|bc", By("abc", 1, math.MaxInt)},
		{"|abc", By("abc", math.MinInt, math.MaxInt)},
		{"abc", By("abc", 3)},
		{"abc", By("abc", 0, 0)},
		{"abc", By("abc", -1, math.MinInt)},
		{"abc", By("abc")},
		{"abc", By("abc", []int{}...)},
		{"\xc3|\xa9", By("é", 1)},
	} {
		if got := strings.Join(c.got, "|"); got != c.want {
			t.Errorf("%q; want %q", got, c.want)
		}
	}
	for _, got := range [][]string{By(""), By("", 0), By("", 0, 1), By("", 1, 2), By("", -1), By("", math.MaxInt)} {
		if len(got) != 1 || got[0] != "" {
			t.Errorf("nothing by sizes: %q", got)
		}
	}
}

// P7.1: a long text, and many sizes.
func TestByLong(t *testing.T) {
	s := strings.Repeat("abcdefg", 1000)
	var sizes []int
	for i := range 300 {
		sizes = append(sizes, i%5-2)
	}
	checkBy(t, s, sizes)
	checkBy(t, s, []int{1})
	checkBy(t, s, sizes[:3:3])
}

// P7.1: the pieces in their order, with nothing between.
func TestJoin(t *testing.T) {
	for _, c := range []struct {
		list []string
		want string
	}{
		{nil, ""},
		{[]string{}, ""},
		{[]string{""}, ""},
		{[]string{"", "", ""}, ""},
		{[]string{"a"}, "a"},
		{[]string{"b", "a"}, "ba"},
		{[]string{"", "a", "", "bc", ""}, "abc"},
		{[]string{"\xc3", "\xa9"}, "é"},
	} {
		given := slices.Clone(c.list)
		if got := Join(given); got != c.want || !slices.Equal(given, c.list) {
			t.Errorf("Join(%q) = %q", c.list, got)
		}
	}
}

// P7.1: how many ways: the double of those of one byte less, of 0 bytes one; errors below 0 and above 16.
func TestCount(t *testing.T) {
	many := 1
	for n := range 17 {
		if n > 1 {
			many *= 2
		}
		if got, e := Count(n); got != many || e != api.OK {
			t.Errorf("Count(%d) = %d, %d; want %d", n, got, e, many)
		}
	}
	for _, n := range []int{-1, -2, math.MinInt} {
		if got, e := Count(n); got != 0 || e != api.ErrArg {
			t.Errorf("Count(%d) = %d, %d", n, got, e)
		}
	}
	for _, n := range []int{17, 18, 64, 65, 1 << 32, math.MaxInt} {
		if got, e := Count(n); got != 0 || e != api.ErrBig {
			t.Errorf("Count(%d) = %d, %d", n, got, e)
		}
	}
}

// number is which way these places are.
func number(places []int) int {
	sum := 0
	for _, k := range places {
		sum += 1 << (k - 1)
	}
	return sum
}

// P7.1: the ways of each number of bytes, in order: rising places within the bytes, whose bits are the way's number.
func TestWays(t *testing.T) {
	for n := range 17 {
		many, _ := Count(n)
		i := 0
		for places := range Ways(n) {
			for j, k := range places {
				if k < 1 || k > n-1 || j > 0 && places[j-1] >= k {
					t.Fatalf("Ways(%d), %d: %v", n, i, places)
				}
			}
			if number(places) != i {
				t.Fatalf("Ways(%d), %d: %v", n, i, places)
			}
			i++
		}
		if i != many {
			t.Errorf("Ways(%d): %d; want %d", n, i, many)
		}
	}
}

// P7.1: the ways of 0 to 4 bytes, written out.
func TestWaysSpelt(t *testing.T) {
	for n, want := range [][][]int{
		{{}},
		{{}},
		{{}, {1}},
		{{}, {1}, {2}, {1, 2}},
		{{}, {1}, {2}, {1, 2}, {3}, {1, 3}, {2, 3}, {1, 2, 3}},
	} {
		if got := slices.Collect(Ways(n)); !slices.EqualFunc(got, want, slices.Equal[[]int]) {
			t.Errorf("Ways(%d): %v; want %v", n, got, want)
		}
	}
}

// P7.1: nothing, where Count tells an error.
func TestWaysOfWrongNumbers(t *testing.T) {
	for _, n := range []int{math.MinInt, -2, -1, 17, 18, 64, 65, math.MaxInt} {
		for places := range Ways(n) {
			t.Fatalf("Ways(%d): %v", n, places)
		}
	}
}

// P7.1, P7.2: a text's pieces at the places of each way, in order.
func TestEach(t *testing.T) {
	for _, s := range someTexts(16) {
		i := 0
		next, stop := iter.Pull(Each(s))
		for places := range Ways(len(s)) {
			got, is := next()
			want := At(s, places...)
			if !is || !slices.Equal(got, want) || Join(got) != s {
				t.Fatalf("Each(%q), %d: %q; want %q", s, i, got, want)
			}
			if len(s) > 0 && slices.Contains(got, "") {
				t.Fatalf("Each(%q), %d: %q has an empty piece", s, i, got)
			}
			i++
		}
		if more, is := next(); is {
			t.Errorf("Each(%q): %q is one too many", s, more)
		}
		stop()
	}
}

// P7.1: all ways of short texts, written out; bytes are cut, not characters.
func TestEachSpelt(t *testing.T) {
	for s, want := range map[string]string{
		"":     "",
		"a":    "a",
		"é":    "é \xc3|\xa9",
		"abc":  "abc a|bc ab|c a|b|c",
		"abcd": "abcd a|bcd ab|cd a|b|cd abc|d a|bc|d ab|c|d a|b|c|d",
	} {
		var got []string
		for pieces := range Each(s) {
			got = append(got, strings.Join(pieces, "|"))
		}
		if strings.Join(got, " ") != want || len(got) != len(strings.Split(want, " ")) {
			t.Errorf("Each(%q): %q; want %q", s, got, want)
		}
	}
}

// P7.1: nothing of a text that is too long.
func TestEachOfLongTexts(t *testing.T) {
	for _, n := range []int{17, 18, 64, 65, 1 << 20} {
		for pieces := range Each(strings.Repeat("a", n)) {
			t.Fatalf("%d bytes: %q", n, pieces)
		}
	}
}

// checkAsked asks for some, for the same again, and within itself.
func checkAsked[T any](t *testing.T, what string, seq iter.Seq[T], alike func(a, b T) bool) {
	t.Helper()
	all := slices.Collect(seq)
	for most := 1; most <= len(all); most++ {
		var got []T
		for one := range seq {
			if got = append(got, one); len(got) == most {
				break
			}
		}
		if !slices.EqualFunc(got, all[:most], alike) {
			t.Fatalf("%s, %d asked: %v; want of %v", what, most, got, all)
		}
	}
	i := 0
	for outer := range seq {
		j := 0
		for inner := range seq {
			if !alike(outer, all[i]) || !alike(inner, all[j]) {
				t.Fatalf("%s, %d within %d: %v, %v", what, j, i, inner, outer)
			}
			j++
		}
		i++
	}
}

// P7.1: ways and pieces come as far as they are asked for, and the same when they are asked again.
func TestAsFarAsAsked(t *testing.T) {
	for n := range 7 {
		checkAsked(t, "Ways", Ways(n), slices.Equal[[]int])
		checkAsked(t, "Each", Each("abcdef"[:n]), slices.Equal[[]string])
	}
}

// P7.1: a way is made when it is asked for, not ahead of that.
func TestMakesNoMore(t *testing.T) {
	made := testing.AllocsPerRun(3, func() {
		for range Ways(16) {
			break
		}
		for range Each("abcdefghijklmnop") {
			break
		}
	})
	if made > 100 {
		t.Errorf("one way of many: %v things were made", made)
	}
}

// checkOwn writes into each list and behind its end, and sees whether the others, those to come too, stay as they were.
func checkOwn[T comparable](t *testing.T, what string, seq iter.Seq[[]T]) {
	t.Helper()
	var want, kept [][]T
	for list := range seq {
		want = append(want, slices.Clone(list))
	}
	i := 0
	for list := range seq {
		if !slices.Equal(list, want[i]) {
			t.Fatalf("%s, %d: %v; want %v", what, i, list, want[i])
		}
		kept = append(kept, list)
		clear(list[len(list):cap(list)])
		if i%2 == 0 {
			clear(list)
		}
		i++
	}
	for i := 1; i < len(kept); i += 2 {
		if !slices.Equal(kept[i], want[i]) {
			t.Fatalf("%s, %d: %v; want %v", what, i, kept[i], want[i])
		}
	}
}

// P7.1, rule 2: each list is the caller's own.
func TestListsAreTheCallers(t *testing.T) {
	for n := range 9 {
		checkOwn(t, "Ways", Ways(n))
		checkOwn(t, "Each", Each("abcdefgh"[:n]))
	}
	places := []int{1, 2, 3}
	first, second := At("abcd", places...), At("abcd", places...)
	clear(first)
	if !slices.Equal(second, []string{"a", "b", "c", "d"}) {
		t.Errorf("At: %q", second)
	}
	first, second = By("abcd", places...), By("abcd", places...)
	clear(first)
	if !slices.Equal(second, []string{"a", "bc", "d"}) {
		t.Errorf("By: %q", second)
	}
}

// P7.1: what the chapter gives as examples.
func TestExamples(t *testing.T) {
	if got := At("abcd", 3, 1, 3); !slices.Equal(got, []string{"a", "bc", "", "d"}) {
		t.Errorf("At: %q", got)
	}
	if got := By("abcd", 1, 2); !slices.Equal(got, []string{"a", "bc", "d"}) {
		t.Errorf("By: %q", got)
	}
}

// P1, P7.1, P7.2: any text, places and sizes at all.
func FuzzPieces(f *testing.F) {
	f.Add("abcd", 3, 1, 3)
	f.Add("", -1, 0, math.MaxInt)
	f.Add("é\xff", 0, math.MinInt, 1)
	f.Fuzz(func(t *testing.T, s string, a, b, c int) {
		numbers := []int{a, b, c}
		for n := range len(numbers) + 1 {
			checkAt(t, s, numbers[:n])
			checkBy(t, s, numbers[:n])
		}
	})
}
