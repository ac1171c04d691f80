package topic_test

import (
	"bytes"
	"math/rand"
	"regexp"
	"slices"
	"strings"
	"testing"
	"unicode/utf8"
	"unsafe"

	"halyard/api"
	"halyard/topic"
)

// guarded is b with room behind its length, and a look whether all of it stayed as it was.
func guarded(b []byte) ([]byte, func(t *testing.T)) {
	whole := append(append([]byte{}, b...), bytes.Repeat([]byte{0xbf}, 40)...)
	before := bytes.Clone(whole)
	return whole[:len(b)], func(t *testing.T) {
		t.Helper()
		if !bytes.Equal(whole, before) {
			t.Errorf("the argument %x became %x", before, whole)
		}
	}
}

func wantText(t *testing.T, b []byte, want bool) {
	t.Helper()
	given, unchanged := guarded(b)
	if got := topic.Text(given); got != want {
		t.Errorf("Text(%.40x) of %d bytes = %v", b, len(b), got)
	}
	unchanged(t)
}

// wantKinds asks whether s is a topic, a filter and a client's name.
func wantKinds(t *testing.T, s string, name, filter, client bool) {
	t.Helper()
	if n, f, c := topic.Name(s), topic.Filter(s), topic.Client(s); n != name || f != filter || c != client {
		t.Errorf("Name, Filter, Client of %q (%d bytes) = %v, %v, %v, not %v, %v, %v", s, len(s), n, f, c, name, filter, client)
	}
}

func wantMatch(t *testing.T, filter, name string, want bool) {
	t.Helper()
	if got := topic.Match(filter, name); got != want {
		t.Errorf("Match(%q, %q) = %v", filter, name, got)
	}
}

func wantCovers(t *testing.T, wide, narrow string, want bool) {
	t.Helper()
	if got := topic.Covers(wide, narrow); got != want {
		t.Errorf("Covers(%q, %q) = %v", wide, narrow, got)
	}
}

// row is all texts of up to most bytes over the alphabet, the empty one too.
func row(alphabet string, most int) []string {
	all := []string{""}
	for from := 0; most > 0; most-- {
		upTo := len(all)
		for _, s := range all[from:upTo] {
			for _, c := range alphabet {
				all = append(all, s+string(c))
			}
		}
		from = upTo
	}
	return all
}

func only(all []string, is func(string) bool) []string {
	var some []string
	for _, s := range all {
		if is(s) {
			some = append(some, s)
		}
	}
	return some
}

// ends: the first and the last character of each length, those beside the surrogates, and the last of all.
var ends = []rune{0x01, 0x2f, 0x7f, 0x80, 0x7ff, 0x800, 0xfff, 0x1000, 0xcfff, 0xd000, 0xd7ff, 0xe000, 0xfeff, 0xfffd, 0xfffe, 0xffff, 0x10000, 0x3ffff, 0x40000, 0xfffff, 0x100000, 0x10ffff}

// encoded is r in just size bytes, however many it needs.
func encoded(r rune, size int) []byte {
	if size == 1 {
		return []byte{byte(r)}
	}
	b := make([]byte, size)
	for i := size - 1; i > 0; i-- {
		b[i] = 0x80 | byte(r&0x3f)
		r >>= 6
	}
	b[0] = byte(uint16(0xff00)>>size) | byte(r)
	return b
}

// P4.1

func TestTextOfNoBytes(t *testing.T) {
	if !topic.Text(nil) || !topic.Text([]byte{}) {
		t.Error("no bytes are a text")
	}
	wantText(t, nil, true)
}

func TestTextWithTheCharacterNought(t *testing.T) {
	for _, s := range []string{"\x00", "a\x00", "\x00a", "a\x00b", "ä\x00", "\x00ä", "\U0010ffff\x00", strings.Repeat("a", 500) + "\x00"} {
		wantText(t, []byte(s), false)
	}
	wantText(t, []byte("0"), true)
}

func TestTextOfEachCharacter(t *testing.T) {
	for r := rune(1); r <= utf8.MaxRune; r++ {
		b := encoded(r, max(1, utf8.RuneLen(r)))
		if r >= 0xd800 && r <= 0xdfff {
			b = encoded(r, 3)
		}
		if got, want := topic.Text(b), utf8.ValidRune(r); got != want {
			t.Errorf("Text(%x), the character %U = %v", b, r, got)
		}
	}
}

func TestTextOfTheFirstAndLastOfEachLength(t *testing.T) {
	for _, r := range ends {
		b := []byte(string(r))
		wantText(t, b, true)
		wantText(t, slices.Concat([]byte("a"), b, []byte("b")), true)
		wantText(t, slices.Concat(b, b, b), true)
	}
}

func TestTextCutOffWithinACharacter(t *testing.T) {
	for _, r := range ends {
		b := []byte(string(r))
		for short := 1; short < len(b); short++ {
			wantText(t, b[:short], false)
			wantText(t, slices.Concat([]byte("xy"), b[:short]), false)
			wantText(t, slices.Concat(b[:short], []byte("xy")), false)
			wantText(t, slices.Concat(b[:short], b), false)
			wantText(t, slices.Concat(b[:short], []byte{0xc0}), false)
			wantText(t, slices.Concat(b[:short], []byte{0x7f, 0x80}), false)
		}
		for from := 1; from < len(b); from++ {
			wantText(t, b[from:], false)
		}
	}
}

// Bytes behind the length would end the character that is cut off: they must not be read.
func TestTextLooksAtItsLengthAlone(t *testing.T) {
	for _, r := range ends {
		b := []byte(string(r))
		for short := 1; short < len(b); short++ {
			if topic.Text(b[:short]) {
				t.Errorf("Text(%x) reads on behind its length", b[:short])
			}
		}
	}
	if !topic.Text([]byte("ab\xff\x00")[:2]) {
		t.Error("Text(ab) reads on behind its length")
	}
}

func TestTextInMoreBytesThanNeeded(t *testing.T) {
	for _, r := range append([]rune{0}, ends...) {
		needed := utf8.RuneLen(r)
		for size := needed + 1; size <= 4; size++ {
			b := encoded(r, size)
			wantText(t, b, false)
			wantText(t, slices.Concat([]byte("a"), b), false)
		}
	}
	for _, b := range []string{"\xc0\x80", "\xc1\xbf", "\xe0\x80\x80", "\xe0\x9f\xbf", "\xf0\x80\x80\x80", "\xf0\x8f\xbf\xbf", "\xf8\x80\x80\x80\x80", "\xfc\x80\x80\x80\x80\x80"} {
		wantText(t, []byte(b), false)
	}
}

func TestTextOfSurrogates(t *testing.T) {
	for r := rune(0xd800); r <= 0xdfff; r++ {
		wantText(t, encoded(r, 3), false)
	}
	wantText(t, []byte("\xed\xa0\xbd\xed\xb8\x80"), false) // a pair of them
	wantText(t, []byte("\xed\x9f\xbf\xee\x80\x80"), true)  // those beside them
}

func TestTextBeyondTheLastCharacter(t *testing.T) {
	for _, r := range []rune{0x110000, 0x110001, 0x11ffff, 0x120000, 0x13ffff, 0x140000, 0x17ffff, 0x180000, 0x1fffff} {
		wantText(t, encoded(r, 4), false)
	}
	wantText(t, []byte("\xf4\x8f\xbf\xbf"), true)
	wantText(t, []byte("\xf4\x90\x80\x80"), false)
	for first := 0xf5; first <= 0xff; first++ {
		for behind := range 6 {
			wantText(t, append([]byte{byte(first)}, bytes.Repeat([]byte{0x80}, behind)...), false)
		}
	}
}

func TestTextOfBytesThatGoOnWithoutABeginning(t *testing.T) {
	for c := 0x80; c <= 0xbf; c++ {
		wantText(t, []byte{byte(c)}, false)
		wantText(t, []byte{'a', byte(c)}, false)
		wantText(t, []byte{0xc3, 0xa4, byte(c)}, false)
		wantText(t, []byte{0xe2, 0x82, 0xac, byte(c)}, false)
		wantText(t, []byte{0xf0, 0x9f, 0x98, 0x80, byte(c)}, false)
	}
}

func TestTextOfAllShortRows(t *testing.T) {
	for first := range 256 {
		for second := range 256 {
			b := []byte{byte(first), byte(second)}
			if got, want := topic.Text(b), utf8.Valid(b) && first != 0 && second != 0; got != want {
				t.Errorf("Text(%x) = %v", b, got)
			}
		}
	}
}

// edgeBytes: both ends of what each place of a character may be, and what lies beside them.
var edgeBytes = []byte{0x01, 0x7f, 0x80, 0x8f, 0x90, 0x9f, 0xa0, 0xbf, 0xc0, 0xc1, 0xc2, 0xdf, 0xe0, 0xe1, 0xec, 0xed, 0xee, 0xef, 0xf0, 0xf1, 0xf3, 0xf4, 0xf5, 0xf7, 0xf8, 0xff}

func TestTextOfRowsOfEdges(t *testing.T) {
	for _, a := range edgeBytes {
		for _, b := range edgeBytes {
			for _, c := range edgeBytes {
				for _, d := range edgeBytes {
					four := []byte{a, b, c, d}
					for size := 1; size <= 4; size++ {
						if got := topic.Text(four[:size]); got != utf8.Valid(four[:size]) {
							t.Errorf("Text(%x) = %v", four[:size], got)
						}
					}
				}
			}
		}
	}
}

func TestTextOfLongRows(t *testing.T) {
	long := strings.Repeat("aä€😀", 1<<16)
	wantText(t, []byte(long), true)
	for _, at := range []int{0, 1, 2, 77, 1 << 17, len(long) - 1} {
		b := []byte(long)
		b[at] = 0xff
		wantText(t, b, false)
		b[at] = 0
		wantText(t, b, false)
	}
}

func TestTextOfBytesByChance(t *testing.T) {
	from := rand.New(rand.NewSource(4))
	for range 20000 {
		b := make([]byte, from.Intn(12))
		for i := range b {
			b[i] = edgeBytes[from.Intn(len(edgeBytes))]
		}
		wantText(t, b, utf8.Valid(b))
	}
}

// P4.2

func TestNamesAndClients(t *testing.T) {
	for _, s := range []string{"a", "a/b", "/", "//", "/a", "a/", "a//b", "/a//", "$x", "$", "$x/y", "a$", " ", "a b", "\x01", "\x7f", "ä", "ä/€/😀", "\ufeff", "\U0010ffff", "\uffff", "*", "?"} {
		wantKinds(t, s, true, true, true)
	}
}

func TestNoBytesAreNoNameAndNoClient(t *testing.T) {
	wantKinds(t, "", false, false, false)
}

func TestNamesHaveNoSign(t *testing.T) {
	for _, s := range []string{"+", "#", "a/+", "+/a", "a/#", "+/#", "/+", "+/", "/#", "$x/#", "$x/+", "//+//+//#"} {
		wantKinds(t, s, false, true, true)
	}
	for _, s := range []string{"a+", "+a", "a#", "#a", "a/b#", "a/b+c/d", "++", "##", "+#", "$+", "$#"} {
		wantKinds(t, s, false, false, true)
	}
}

func TestWhatIsNoTextIsNothing(t *testing.T) {
	for _, s := range []string{"\x00", "a\x00", "\x00a", "a/\x00/b", "\xff", "a\xff", "\xc0\x80", "\xed\xa0\x80", "\xf4\x90\x80\x80", "\x80", "a/\xc3", "\xe2\x82", "\xf0\x9f\x98", "+/\xff", "\x00/#", "\xffa/#"} {
		wantKinds(t, s, false, false, false)
	}
}

func TestNamesAndClientsOfEveryLength(t *testing.T) {
	for size := 1; size <= 3*api.MaxTopic; size++ {
		topics, clients := size <= api.MaxTopic, size <= api.MaxClient
		wantKinds(t, strings.Repeat("a", size), topics, topics, clients)
		wantKinds(t, strings.Repeat("/", size), topics, topics, clients)
		wantKinds(t, strings.Repeat("a", size-1)+"\x00", false, false, false)
		wantKinds(t, strings.Repeat("a", size-1)+"+", false, topics && size == 1, clients)
	}
	wantKinds(t, strings.Repeat("a", 1<<20), false, false, false)
}

// Bytes are counted, not characters.
func TestLengthsAreOfBytes(t *testing.T) {
	for _, character := range []string{"ä", "€", "😀"} {
		size := len(character)
		for n := 1; n < 80; n++ {
			for pad := range size {
				s := strings.Repeat("a", pad) + strings.Repeat(character, n)
				wantKinds(t, s, len(s) <= 64, len(s) <= 64, len(s) <= 32)
			}
		}
	}
}

func TestNamesOfEachShortText(t *testing.T) {
	for _, s := range row("a/+#$\x00", 5) {
		whole := s != "" && !strings.Contains(s, "\x00")
		if got := topic.Client(s); got != whole {
			t.Errorf("Client(%q) = %v", s, got)
		}
		if got := topic.Name(s); got != (whole && !strings.ContainsAny(s, "+#")) {
			t.Errorf("Name(%q) = %v", s, got)
		}
	}
}

func TestLevels(t *testing.T) {
	for s, want := range map[string][]string{
		"":        {""},
		"a":       {"a"},
		"/":       {"", ""},
		"//":      {"", "", ""},
		"a/b":     {"a", "b"},
		"/a":      {"", "a"},
		"a/":      {"a", ""},
		"a//b":    {"a", "", "b"},
		"/a//":    {"", "a", "", ""},
		"a/+/#":   {"a", "+", "#"},
		"#/a+":    {"#", "a+"},
		"ä/€/😀":   {"ä", "€", "😀"},
		"\x00/":   {"\x00", ""},
		"\xff/a":  {"\xff", "a"},
		"\xc3/":   {"\xc3", ""},
		"a\\/b":   {"a\\", "b"},
		" / ":     {" ", " "},
		"$x/y/$z": {"$x", "y", "$z"},
	} {
		if got := topic.Levels(s); !slices.Equal(got, want) {
			t.Errorf("Levels(%q) = %q, not %q", s, got, want)
		}
	}
}

func TestLevelsAreWhatStandsBetween(t *testing.T) {
	for _, s := range row("a+/ä", 6) {
		got := topic.Levels(s)
		if strings.Join(got, "/") != s || len(got) != strings.Count(s, "/")+1 || strings.Contains(strings.Join(got, ""), "/") {
			t.Errorf("Levels(%q) = %q", s, got)
		}
	}
}

func TestLevelsOfLongTexts(t *testing.T) {
	for _, n := range []int{64, 65, 1000, 1 << 17} {
		if got := topic.Levels(strings.Repeat("/", n)); len(got) != n+1 || strings.Join(got, "") != "" {
			t.Errorf("Levels of %d separators: %d levels", n, len(got))
		}
		if got := topic.Levels(strings.Repeat("x", n)); len(got) != 1 || len(got[0]) != n {
			t.Errorf("Levels of %d bytes: %d levels", n, len(got))
		}
		if got := topic.Levels(strings.Repeat("ab/", n)); len(got) != n+1 || got[n] != "" || got[n-1] != "ab" {
			t.Errorf("Levels of %d levels: %d levels", n, len(got))
		}
	}
}

func TestLevelsAreNewMemory(t *testing.T) {
	s := strings.Clone("abc/def//g")
	first, second := topic.Levels(s), topic.Levels(s)
	clear(first[:cap(first)])
	if !slices.Equal(second, []string{"abc", "def", "", "g"}) || s != "abc/def//g" {
		t.Errorf("an answer's change became another's: %q of %q", second, s)
	}
	begin := uintptr(unsafe.Pointer(unsafe.StringData(s)))
	for _, level := range second {
		if level == "" {
			continue
		}
		if at := uintptr(unsafe.Pointer(unsafe.StringData(level))); at >= begin && at < begin+uintptr(len(s)) {
			t.Errorf("the level %q lies within the argument", level)
		}
	}
}

// P4.3

func TestFiltersOfKnownTexts(t *testing.T) {
	for s, want := range map[string]bool{
		"a/b#": false, "#/a": false, "/": true, // the document's own
		"+": true, "#": true, "+/+": true, "+/#": true, "a/+/c": true, "a/#": true, "/#": true, "/+": true, "+/": true, "//#": true, "a//#": true, "+//+": true, "+/+/#": true,
		"#/": false, "#/#": false, "#/+": false, "a/#/": false, "a/#/b": false, "a/#/#": false, "/#/": false, "+/#/+": false,
		"++": false, "+a": false, "a+": false, "a+b": false, "a/+b": false, "a/b+/c": false, "+a/b": false, "a/++/b": false,
		"##": false, "#a": false, "a#": false, "a/#b": false, "a/##": false, "+#": false, "#+": false, "a/+#": false, "$+": false, "$#": false,
		"$": true, "$x/+": true, "$x/#": true, "$/#": true, "+/$x": true,
	} {
		if got := topic.Filter(s); got != want {
			t.Errorf("Filter(%q) = %v", s, got)
		}
	}
}

// filterForm is P4.3's words as an expression.
var filterForm = regexp.MustCompile(`^(([^/+#]*|\+)/)*([^/+#]*|\+|#)$`)

func TestFiltersOfEachShortText(t *testing.T) {
	for _, s := range row("ab/+#$", 6) {
		if got, want := topic.Filter(s), s != "" && filterForm.MatchString(s); got != want {
			t.Errorf("Filter(%q) = %v", s, got)
		}
	}
}

func TestFiltersOfEveryLength(t *testing.T) {
	for size := 2; size <= 100; size++ {
		within := size <= api.MaxTopic
		for _, s := range []string{strings.Repeat("a", size-2) + "/#", strings.Repeat("a", size-2) + "/+", "+/" + strings.Repeat("a", size-2), strings.Repeat("/", size-1) + "#", "+" + strings.Repeat("/", size-1)} {
			if got := topic.Filter(s); got != within {
				t.Errorf("Filter(%q) of %d bytes = %v", s, size, got)
			}
		}
	}
	if s := strings.Repeat("+/", 31) + "+/"; !topic.Filter(s) || topic.Filter(s+"#") {
		t.Errorf("filters of %d signs", 32)
	}
}

// P4.4

func TestMatchOfKnownPairs(t *testing.T) {
	for _, c := range []struct {
		filter, name string
		want         bool
	}{
		{"a/+/c", "a/b/c", true}, {"a/#", "a", true}, {"+", "$x", false}, {"+/b", "/b", true}, // the document's own
		{"a", "a", true}, {"a", "b", false}, {"a", "A", false}, {"a", "aa", false}, {"aa", "a", false}, {"a", "a/", false}, {"a/", "a", false}, {"a", "/a", false}, {"/a", "a", false},
		{"+", "a", true}, {"+", "/", false}, {"+", "a/b", false}, {"+/+", "/", true}, {"+/+", "a", false}, {"+/+", "a/b", true}, {"+/+", "a/b/c", false}, {"+/+/+", "//", true},
		{"a/+", "a", false}, {"a/+", "a/", true}, {"a/+", "a/b", true}, {"a/+", "a/b/c", false}, {"a/+", "b/a", false}, {"a/+/c", "a//c", true}, {"a/+/c", "a/c", false}, {"a/+/c", "a/b/b/c", false},
		{"#", "a", true}, {"#", "/", true}, {"#", "a/b/c", true}, {"a/#", "a/", true}, {"a/#", "a/b", true}, {"a/#", "a/b/c/d", true}, {"a/#", "ab", false}, {"a/#", "b", false}, {"a/#", "b/a", false}, {"a/#", "/a", false},
		{"/#", "/", true}, {"/#", "/a", true}, {"/#", "a", false}, {"/#", "a/", false}, {"//#", "/", true}, {"//#", "//", true}, {"a//#", "a", false}, {"a//#", "a/", true}, {"a/b/#", "a", false}, {"a/b/#", "a/b", true},
		{"+/#", "a", true}, {"+/#", "a/b/c", true}, {"+/#", "/", true}, {"a/+/#", "a", false}, {"a/+/#", "a/b", true}, {"a/+/#", "a/b/c", true}, {"+/b/#", "a/b", true}, {"+/b/#", "a/c", false},
		{"ä/+", "ä/€", true}, {"ä", "a", false}, {"+", "😀", true},
	} {
		wantMatch(t, c.filter, c.name, c.want)
	}
}

func TestMatchOfNamesThatBeginWithADollar(t *testing.T) {
	for _, c := range []struct {
		filter, name string
		want         bool
	}{
		{"+", "$", false}, {"#", "$", false}, {"#", "$x", false}, {"#", "$x/y", false}, {"+/y", "$x/y", false}, {"+/+", "$x/y", false}, {"+/#", "$x/y", false}, {"+/#", "$x", false},
		{"$x", "$x", true}, {"$", "$", true}, {"$x/+", "$x/y", true}, {"$x/#", "$x/y", true}, {"$x/#", "$x", true}, {"$/#", "$/a", true}, {"$x", "$y", false}, {"$x/+/z", "$x/y/z", true},
		{"+", "a$", true}, {"#", "a/$x", true}, {"a/+", "a/$x", true}, {"a/#", "a/$x", true}, {"/+", "/$x", true}, {"+/+", "/$x", true}, {"#", "/$x", true}, {"+", "x$", true},
	} {
		wantMatch(t, c.filter, c.name, c.want)
	}
}

func TestMatchOfWhatIsNoFilterOrNoName(t *testing.T) {
	long := strings.Repeat("a", api.MaxTopic)
	wantMatch(t, long, long, true)
	wantMatch(t, "+", long, true)
	wantMatch(t, "#", long, true)
	for _, bad := range []string{"", "\x00", "a\x00", "\xff", "\xc0\x80", "\xed\xa0\x80", long + "a", "a+", "+a", "a#", "#/a", "a/b#", "++", "##"} {
		for _, good := range []string{"a", "a/b", "/", "+", "#", "a/#", long} {
			wantMatch(t, bad, good, false)
			wantMatch(t, good, bad, false)
		}
		wantMatch(t, bad, bad, false)
	}
	for _, filter := range []string{"+", "#", "a/+", "a/#", "+/+", "+/#"} { // filters, but no names
		for _, wide := range []string{"#", "+", "+/+", "a/+", filter} {
			wantMatch(t, wide, filter, false)
		}
	}
}

// expression is a filter as an expression over names: P4.4's words told another way.
func expression(filter string) *regexp.Regexp {
	text := regexp.QuoteMeta(filter)
	text = strings.ReplaceAll(text, `\+`, `[^/]*`)
	if before, ok := strings.CutSuffix(text, "/#"); ok {
		text = before + "(/.*)?"
	} else if text == "#" {
		text = ".*"
	}
	if strings.HasPrefix(filter, "+") || strings.HasPrefix(filter, "#") {
		text = `([^$].*|)` + "\x00" + text
	} else {
		text = ".*\x00" + text
	}
	return regexp.MustCompile("(?s)^" + text + "$")
}

func TestMatchOfEachShortPair(t *testing.T) {
	names := only(row("a/$", 5), topic.Name)
	for _, filter := range only(row("a/+#$", 5), topic.Filter) {
		meets := expression(filter)
		for _, name := range names {
			// The name stands twice: ahead for how it begins, behind for its levels.
			if got := topic.Match(filter, name); got != meets.MatchString(name+"\x00"+name) {
				t.Errorf("Match(%q, %q) = %v", filter, name, got)
			}
		}
	}
}

func TestMatchOfManyLevels(t *testing.T) {
	for n := 1; n <= 32; n++ {
		name := strings.Repeat("a/", n-1) + "a"
		wantMatch(t, strings.Repeat("+/", n-1)+"+", name, true)
		wantMatch(t, name, name, true)
		for k := 1; k < n; k++ {
			wantMatch(t, strings.Repeat("+/", k-1)+"+", name, false)
			wantMatch(t, name, strings.Repeat("a/", k-1)+"a", false)
			wantMatch(t, strings.Repeat("a/", k)+"#", name, true)
			wantMatch(t, strings.Repeat("+/", k-1)+"a/#", name, true)
			wantMatch(t, strings.Repeat("+/", k-1)+"b/#", name, false)
		}
		if n < 32 {
			wantMatch(t, name+"/#", name, true)
			wantMatch(t, name+"/+", name, false)
		}
	}
	wantMatch(t, strings.Repeat("/", 64), strings.Repeat("/", 64), true)
	wantMatch(t, strings.Repeat("/", 64), strings.Repeat("/", 63), false)
	wantMatch(t, strings.Repeat("/", 63)+"#", strings.Repeat("/", 64), true)
}

// P4.5

func TestCoversOfKnownPairs(t *testing.T) {
	for _, c := range []struct {
		wide, narrow string
		want         bool
	}{
		{"a/#", "a/+", true}, // the document's own
		{"a", "a", true}, {"a", "b", false}, {"a", "A", false}, {"a", "a/", false}, {"a/", "a", false}, {"a", "a/b", false}, {"a/b", "a", false}, {"/", "/", true},
		{"#", "#", true}, {"#", "+", true}, {"#", "a", true}, {"#", "/", true}, {"#", "+/#", true}, {"#", "a/b/#", true}, {"#", "+/b", true},
		{"+", "+", true}, {"+", "a", true}, {"+", "#", false}, {"+", "/", false}, {"+", "+/+", false}, {"+", "+/#", false}, {"+/+", "+", false}, {"+/+", "/", true}, {"+/+", "a/+", true}, {"+/+", "a/#", false}, {"+/+", "+/#", false}, {"+/b", "a/b", true}, {"+/b", "/b", true}, {"+/b", "+/b", true}, {"+/b", "a/+", false},
		{"a", "+", false}, {"a", "#", false}, {"a", "a/#", false}, {"a", "a/+", false}, {"a/b", "+/b", false}, {"a/b", "a/+", false}, {"a/b", "a/#", false},
		{"a/+", "a/#", false}, {"a/+", "a/+", true}, {"a/+", "a/b", true}, {"a/+", "a/", true}, {"a/+", "a", false}, {"a/+", "+/+", false}, {"a/+", "b/+", false}, {"a/+", "a/+/+", false},
		{"a/#", "a", true}, {"a/#", "a/#", true}, {"a/#", "a/b/#", true}, {"a/#", "a/+/#", true}, {"a/#", "a//", true}, {"a/#", "#", false}, {"a/#", "+", false}, {"a/#", "+/#", false}, {"a/#", "b/#", false}, {"a/#", "ab", false},
		{"+/#", "#", false}, {"+/#", "+", true}, {"+/#", "a", true}, {"+/#", "a/#", true}, {"+/#", "+/#", true}, {"+/#", "+/+/#", true}, {"a/+/#", "a/#", false}, {"a/+/#", "a/b", true}, {"a/+/#", "a/b/#", true}, {"a/+/#", "a", false}, {"/#", "/", true}, {"/#", "/+", true}, {"/#", "+/+", false},
	} {
		wantCovers(t, c.wide, c.narrow, c.want)
	}
}

func TestCoversOfFiltersThatBeginWithADollar(t *testing.T) {
	for _, c := range []struct {
		wide, narrow string
		want         bool
	}{
		{"+", "$", false}, {"#", "$", false}, {"+", "$x", false}, {"#", "$x", false}, {"#", "$x/#", false}, {"#", "$x/+", false}, {"+/#", "$x/#", false}, {"+/#", "$x", false}, {"+/y", "$x/y", false}, {"+/+", "$x/+", false},
		{"$x", "$x", true}, {"$x/#", "$x", true}, {"$x/#", "$x/+", true}, {"$x/#", "$x/#", true}, {"$x/+", "$x/y", true}, {"$x/+", "$x/#", false}, {"$x/#", "$y/#", false}, {"$x", "+", false}, {"$x/#", "#", false},
		{"+", "a$", true}, {"#", "a/$x", true}, {"+/+", "/$x", true}, {"#", "/$x/#", true}, {"a/+", "a/$x", true}, {"+/$x", "a/$x", true}, {"+/$x", "+/$x", true},
	} {
		wantCovers(t, c.wide, c.narrow, c.want)
	}
}

func TestCoversOfWhatIsNoFilter(t *testing.T) {
	long := strings.Repeat("a", api.MaxTopic)
	wantCovers(t, long, long, true)
	wantCovers(t, "#", long, true)
	for _, bad := range []string{"", "\x00", "a\x00", "\xff", "\xc0\x80", "\xed\xa0\x80", long + "a", "a+", "+a", "a#", "#/a", "a/b#", "++", "##", "a/#/b"} {
		for _, good := range []string{"a", "a/b", "/", "+", "#", "a/#", long} {
			wantCovers(t, bad, good, false)
			wantCovers(t, good, bad, false)
		}
		wantCovers(t, bad, bad, false)
	}
}

// covers is P4.5's words over lists of levels, from the end of the first that is empty.
func covers(wide, narrow []string) bool {
	switch {
	case len(wide) > 0 && wide[0] == "#":
		return true
	case len(wide) == 0 || len(narrow) == 0:
		return len(wide) == len(narrow)
	case wide[0] == "+" && narrow[0] == "#", wide[0] != "+" && wide[0] != narrow[0]:
		return false
	}
	return covers(wide[1:], narrow[1:])
}

func TestCoversOfEachShortPair(t *testing.T) {
	filters := only(row("a/+#$", 5), topic.Filter)
	for _, wide := range filters {
		for _, narrow := range filters {
			want := covers(strings.Split(wide, "/"), strings.Split(narrow, "/")) && !(narrow[0] == '$' && (wide[0] == '+' || wide[0] == '#'))
			if got := topic.Covers(wide, narrow); got != want {
				t.Errorf("Covers(%q, %q) = %v", wide, narrow, got)
			}
		}
	}
}

// P4.6

func TestANameMatchesItselfAlone(t *testing.T) {
	names := only(row("aB/$", 4), topic.Name)
	for _, filter := range names {
		for _, name := range names {
			if got := topic.Match(filter, name); got != (filter == name) {
				t.Errorf("Match(%q, %q) = %v", filter, name, got)
			}
		}
	}
}

func TestTheRestMeetsEveryNameWithoutADollarAhead(t *testing.T) {
	for _, name := range only(row("aä/$ ", 5), topic.Name) {
		if got := topic.Match("#", name); got != (name[0] != '$') {
			t.Errorf("Match(#, %q) = %v", name, got)
		}
	}
}

func TestWhatACoveredFilterMeetsItsCoverMeets(t *testing.T) {
	filters := only(row("a/+#$", 4), topic.Filter)
	names := only(row("a/$", 5), topic.Name)
	met := make([][]string, len(filters))
	for i, filter := range filters {
		met[i] = only(names, func(name string) bool { return topic.Match(filter, name) })
	}
	for _, wide := range filters {
		for i, narrow := range filters {
			if !topic.Covers(wide, narrow) {
				continue
			}
			for _, name := range met[i] {
				if !topic.Match(wide, name) {
					t.Errorf("%q covers %q, which meets %q, and does not meet it", wide, narrow, name)
				}
			}
		}
	}
}

func TestAFilterCoversItself(t *testing.T) {
	for _, filter := range only(row("aä/+#$", 5), topic.Filter) {
		wantCovers(t, filter, filter, true)
	}
	for _, filter := range []string{strings.Repeat("a", 64), strings.Repeat("/", 64), strings.Repeat("+/", 31) + "#"} {
		wantCovers(t, filter, filter, true)
	}
}

// P4.7

func TestALevelTurnedIntoAnyLevelMeetsWhatItMet(t *testing.T) {
	names := only(row("a/$", 5), topic.Name)
	for _, filter := range only(row("a/+#$", 5), topic.Filter) {
		met := only(names, func(name string) bool { return topic.Match(filter, name) })
		for i, level := range strings.Split(filter, "/") {
			if level == "#" {
				continue
			}
			levels := strings.Split(filter, "/")
			levels[i] = "+"
			wider := strings.Join(levels, "/")
			for _, name := range met {
				if want := i > 0 || name[0] != '$'; topic.Match(wider, name) != want {
					t.Errorf("%q meets %q; turned into %q: %v", filter, name, wider, !want)
				}
			}
		}
	}
}

func TestTheSameAnswersAgain(t *testing.T) {
	ask := func() []bool {
		return []bool{topic.Match("a/+", "a/b"), topic.Covers("a/#", "a/+"), topic.Filter("a/#"), topic.Name("a/#"), topic.Client("c"), topic.Match("+", "$x"), topic.Text([]byte("ä"))}
	}
	first := ask()
	topic.Match("#", "other")
	topic.Filter("#/#")
	if !slices.Equal(ask(), first) {
		t.Error("the same questions have other answers")
	}
}
