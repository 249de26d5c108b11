package name_test

import (
	"math/rand/v2"
	"slices"
	"strconv"
	"strings"
	"testing"
	"unicode/utf8"

	"footlocker/api"
	"footlocker/name"
)

// source tells the same numbers in each run.
func source() *rand.Rand { return rand.New(rand.NewPCG(31, 32)) }

// isRight tells whether a name is right, by the chapter's words.
func isRight(s string) bool {
	if len(s) < 1 || len(s) > 255 || !utf8.ValidString(s) {
		return false
	}
	for _, r := range []rune(s) {
		if r < 32 || 127 <= r && r <= 159 || strings.ContainsRune("\\:\uFFFD", r) {
			return false
		}
	}
	for _, part := range strings.Split(s, "/") {
		if part == "" || part == "." || part == ".." {
			return false
		}
	}
	return true
}

// likewise checks that Check and Parts answer what the chapter's words tell.
func likewise(t *testing.T, s string) bool {
	t.Helper()
	right := isRight(s)
	want, parts := api.ErrName, []string(nil)
	if right {
		want, parts = api.OK, strings.Split(s, "/")
	}
	if e := name.Check(s); e != want {
		t.Errorf("%q: %d, not %d", s, e, want)
	}
	if got := name.Parts(s); !slices.Equal(got, parts) {
		t.Errorf("%q: %q, not %q", s, got, parts)
	}
	return right
}

func TestTheExamples(t *testing.T) { // P16.1
	for s, want := range map[string]api.Errno{"a/b": api.OK, "a//b": api.ErrName, "/a": api.ErrName, "a/..": api.ErrName, "a\\b": api.ErrName} {
		if e := name.Check(s); e != want {
			t.Errorf("%q: %d", s, e)
		}
	}
}

func TestNamesRightAndWrong(t *testing.T) { // P16.1
	for _, s := range []string{
		"a", " ", "~", "...", "..a", "a..", ".a", "a.", ". ", "a/b.c", "a/.../b", "-", "*", "?", "\"", "|", "con", "Ärger/日本", "\u00A0", "\u00AD", "\uFEFF", "\uFFFC", "\uFFFE", "\uFFFF",
		"\U00010000", "\U0010FFFF", "e\u0301", strings.Repeat("a/", 127) + "a",
	} {
		if !likewise(t, s) {
			t.Errorf("%q should be right", s)
		}
	}
	for _, s := range []string{
		"", "/", "//", "/a", "a/", "a//b", ".", "..", "./a", "../a", "a/.", "a/..", "a/./b", "a/../b", "a\\b", "\\", ":", "c:", "c:/a",
		"\x00", "a\x00", "\n", "\x1F", "\x7F", "\u0080", "\u009F", "\uFFFD", "a\uFFFD", "\xFF", "\x80", "a\xC3", "\xC3/", "\xC0\xAF", "\xE0\x80\xAF", "\xED\xA0\x80", "\xED\xBF\xBF", "\xF4\x90\x80\x80", "\xF8\x88\x80\x80\x80",
	} {
		if likewise(t, s) {
			t.Errorf("%q should be wrong", s)
		}
	}
}

func TestAllRunes(t *testing.T) { // P16.1
	for r := rune(-1); r <= utf8.MaxRune+1; r++ {
		s := string(r)
		want := api.OK
		if !isRight(s) {
			want = api.ErrName
		}
		if e := name.Check(s); e != want {
			t.Fatalf("%U: %d", r, e)
		}
	}
	for _, r := range []rune{31, 32, 46, 47, 57, 58, 59, 91, 92, 93, 126, 127, 128, 159, 160, 0xD7FF, 0xE000, 0xFFFC, 0xFFFD, 0xFFFE} {
		for _, s := range []string{"a" + string(r), string(r) + "a", "a" + string(r) + "b", "a/" + string(r)} {
			likewise(t, s)
		}
	}
}

func TestAllPairsOfBytes(t *testing.T) { // P16.1
	for a := range 256 {
		likewise(t, string([]byte{byte(a)}))
		for b := range 256 {
			s := string([]byte{byte(a), byte(b)})
			likewise(t, s)
			counted(t, s)
			folded(t, s)
		}
	}
}

func TestHowLongANameMayBe(t *testing.T) { // P16.1
	for _, part := range []string{"a", "é", "日", "\U0001F600", "ab/"} {
		for size := 240; size < 270; size++ {
			s := strings.Repeat(part, size/len(part)) + strings.Repeat("x", size%len(part))
			if likewise(t, s) != (size <= 255 && !strings.HasSuffix(s, "/")) {
				t.Errorf("%d bytes of %q", size, part)
			}
		}
	}
	likewise(t, strings.Repeat("a/", 127)+"ab")
	likewise(t, strings.Repeat("a", 1<<20))
	likewise(t, strings.Repeat("a", 254)+"\xFF")
	likewise(t, strings.Repeat("a", 254)+"é")
	likewise(t, strings.Repeat("a", 253)+"é")
}

// made is a text of pieces that names may have, and may not.
func made(r *rand.Rand) string {
	pieces := []string{"a", "B", "/", "/", ".", "..", "é", "日", " ", "Z", "\U0001F600", "x.y", "name", "/a", "b/"}
	if r.IntN(3) == 0 {
		pieces = append(pieces, "\\", ":", "\x1F", "\x7F", "\u0085", "\xFF", "\xE6\x97", "\uFFFD")
	}
	s := ""
	for range r.IntN(8) {
		s += pieces[r.IntN(len(pieces))]
	}
	return s
}

func TestNamesThatAreMade(t *testing.T) { // P16.1
	r := source()
	right := 0
	for range 100000 {
		s := made(r)
		if likewise(t, s) {
			right++
		}
		counted(t, s)
		folded(t, s)
	}
	if right < 20000 || right > 80000 {
		t.Errorf("%d are right", right)
	}
}

func TestPartsPutTogether(t *testing.T) { // P16.2
	r := source()
	for range 50000 {
		s := made(r)
		if name.Check(s) != api.OK {
			continue
		}
		parts := name.Parts(s)
		if strings.Join(parts, "/") != s {
			t.Errorf("%q: %q", s, parts)
		}
		for _, part := range parts {
			if name.Check(part) != api.OK || !slices.Equal(name.Parts(part), []string{part}) {
				t.Errorf("%q: %q isn't right", s, part)
			}
		}
	}
}

// counted holds Runes against the library's count, which is the chapter's.
func counted(t *testing.T, s string) {
	t.Helper()
	if n := name.Runes(s); n != utf8.RuneCountInString(s) || n != len([]rune(s)) {
		t.Errorf("%q: %d runes", s, n)
	}
}

func TestRunes(t *testing.T) { // P16.1
	for s, want := range map[string]int{
		"": 0, "a": 1, "é": 1, "日本": 2, "\U0001F600": 1, "e\u0301": 2, "\xFF": 1, "\xFF\xFE": 2, "aé\xff日": 4, "\xC3": 1, "\xE6\x97": 2, "\xE6\x97a": 3, "\xED\xA0\x80": 3, "\xF4\x90\x80\x80": 4, "\uFFFD": 1, "\x00\n": 2, "a//b": 4,
	} {
		if n := name.Runes(s); n != want {
			t.Errorf("%q: %d, not %d", s, n, want)
		}
	}
}

// folded holds Fold against the chapter's words, byte by byte.
func folded(t *testing.T, s string) {
	t.Helper()
	want := ""
	for i := range len(s) {
		at := strings.Index("ABCDEFGHIJKLMNOPQRSTUVWXYZ", s[i:i+1])
		if at < 0 {
			want += s[i : i+1]
		} else {
			want += "abcdefghijklmnopqrstuvwxyz"[at : at+1]
		}
	}
	if got := name.Fold(s); got != want {
		t.Errorf("%q: %q, not %q", s, got, want)
	}
}

func TestFold(t *testing.T) { // P16.1
	for s, want := range map[string]string{
		"": "", "AbÉ\xffZ": "abÉ\xffz", "@AZ[`az{": "@az[`az{", "\uFFFD": "\uFFFD", "\xC3": "\xC3", "ÀΩЖ\u212A\u0130": "ÀΩЖ\u212A\u0130", "A/B": "a/b", "A//\\:": "a//\\:", "0A\x00": "0a\x00", "\xE6\x97A\xFF": "\xE6\x97a\xFF",
	} {
		if got := name.Fold(s); got != want {
			t.Errorf("%q: %q, not %q", s, got, want)
		}
		folded(t, s)
	}
	for r := range utf8.MaxRune + 1 {
		if s := string(r); (name.Fold(s) == s) == (r >= 'A' && r <= 'Z') {
			t.Fatalf("%U: %q", r, name.Fold(s))
		}
	}
}

// firstAgain is Twice by the chapter's words.
func firstAgain(names []string) int {
	for i := range names {
		if slices.Contains(names[:i], names[i]) {
			return i
		}
	}
	return -1
}

func TestTwice(t *testing.T) { // P16.1
	for _, c := range []struct {
		names []string
		want  int
	}{
		{nil, -1}, {[]string{}, -1}, {[]string{"a"}, -1}, {[]string{""}, -1}, {[]string{"", ""}, 1}, {[]string{"a", "a"}, 1}, {[]string{"a", "a", "a"}, 1}, {[]string{"a", "A"}, -1},
		{[]string{"a", "b", "A", "b", "a"}, 3}, {[]string{"a", "b", "b", "a"}, 2}, {[]string{"a", "b", "a", "b"}, 2}, {[]string{"\xFF", "\uFFFD"}, -1}, {[]string{"\xFF", "\xFE", "\xFF"}, 2}, {[]string{"é", "e\u0301"}, -1}, {[]string{"a", "a/"}, -1},
	} {
		if at := name.Twice(c.names); at != c.want {
			t.Errorf("%q: %d, not %d", c.names, at, c.want)
		}
	}
	r := source()
	for range 5000 {
		names := make([]string, r.IntN(20))
		for i := range names {
			names[i] = strings.Repeat("a", r.IntN(9)) + string(rune('a'+r.IntN(26)))
		}
		kept := slices.Clone(names)
		if at := name.Twice(names); at != firstAgain(names) || !slices.Equal(names, kept) {
			t.Errorf("%q: %d, not %d", kept, at, firstAgain(kept))
		}
	}
}

func TestTwiceOfMany(t *testing.T) { // P16.1
	var names []string
	for i := range 200000 {
		names = append(names, strconv.Itoa(i))
	}
	if at := name.Twice(names); at != -1 {
		t.Errorf("%d", at)
	}
	if at := name.Twice(append(names, "77", "5")); at != 200000 {
		t.Errorf("%d", at)
	}
}

func TestUnder(t *testing.T) { // P16.1
	for _, c := range []struct {
		name, dir string
		want      bool
	}{
		{"a/b", "a", true}, {"a/b/c", "a", true}, {"a/b/c", "a/b", true}, {"a/b/c", "a/b/c", false}, {"a", "a", false}, {"a", "a/b", false}, {"ab", "a", false}, {"ab/c", "a", false}, {"b/a", "a", false}, {"x/a/b", "a", false},
		{"A/b", "a", false}, {"é/日", "é", true}, {".../a", "...", true}, {"a/b", "a/b/c", false}, {"a/b/c", "b", false},
		{"a/b", "", false}, {"/b", "", false}, {"a", "", false}, {"", "", false}, {"", "a", false}, {"a/", "a", false}, {"a//b", "a", false}, {"a//b", "a/", false}, {"a/b", "a/", false}, {"a/b/", "a", false}, {"./a", ".", false}, {"../a", "..", false}, {"a/..", "a", false}, {"a/.", "a", false},
		{"a:/b", "a:", false}, {"a/\xFF", "a", false}, {"\xFF/a", "\xFF", false}, {"a\\b", "a", false},
		{strings.Repeat("x", 253) + "/y", strings.Repeat("x", 253), true}, {strings.Repeat("x", 254) + "/y", strings.Repeat("x", 254), false}, {"a/b", strings.Repeat("x", 256), false},
	} {
		if got := name.Under(c.name, c.dir); got != c.want {
			t.Errorf("%q, %q: %v", c.name, c.dir, got)
		}
	}
	r := source()
	for range 50000 {
		s, dir := made(r), made(r)
		if r.IntN(2) == 0 {
			dir = s[:r.IntN(len(s)+1)]
		}
		rest, ok := strings.CutPrefix(s, dir+"/")
		if want := ok && rest != "" && isRight(s) && isRight(dir); name.Under(s, dir) != want {
			t.Errorf("%q, %q: %v", s, dir, !want)
		}
	}
}

func TestPartsAreNew(t *testing.T) { // P16.1
	a, b := name.Parts("a/b/c"), name.Parts("a/b/c")
	clear(a[:cap(a)])
	if !slices.Equal(b, []string{"a", "b", "c"}) {
		t.Errorf("%q", b)
	}
}
