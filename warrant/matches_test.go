package warrant

import (
	"slices"
	"strings"
	"testing"

	"warrant/api"
)

// marked is a list of marks out of names and values.
func marked(pairs ...string) []api.Mark {
	marks := []api.Mark{}
	for i := 0; i+1 < len(pairs); i += 2 {
		marks = append(marks, api.Mark{Name: pairs[i], Value: pairs[i+1]})
	}
	return marks
}

func wantMatch(t *testing.T, pattern, word string, r api.Request, want bool) {
	t.Helper()
	if got, errno := Matches(pattern, word, r); got != want || errno != api.OK {
		t.Errorf("Matches(%q, %q, %q) = %v, %d, want %v", pattern, word, r, got, errno, want)
	}
}

func wantNoMatch(t *testing.T, pattern, word string, r api.Request, want api.Errno) {
	t.Helper()
	if got, errno := Matches(pattern, word, r); got || errno != want {
		t.Errorf("Matches(%.80q, %.120q, %.120q) = %v, %d, want %d", pattern, word, r, got, errno, want)
	}
}

func TestP7Parts(t *testing.T) {
	for _, c := range []struct {
		pattern   string
		yes, none []string
	}{
		{"", []string{""}, []string{"a", " "}},
		{"a", []string{"a"}, []string{"", "A", "aa", "b", "a "}},
		{"*", []string{"", "a", "é𝄞", "*", "a/b\n"}, nil},
		{"**", []string{"", "a", "ab"}, nil},
		{"?", []string{"a", "é", "世", "𝄞", "?", "\n", "\x00", "\ufffd"}, []string{"", "ab", "éé", "e\u0301"}},
		{"??", []string{"ab", "éa", "𝄞é"}, []string{"", "a", "é", "𝄞", "abc"}},
		{"*?", []string{"a", "é", "ab"}, []string{""}},
		{"?*?", []string{"ab", "éé", "a--b"}, []string{"", "a", "é", "𝄞"}},
		{"a*b", []string{"ab", "axxb", "abb", "abab"}, []string{"", "a", "b", "abc", "xab", "ba"}},
		{"a*b*c", []string{"abc", "abbc", "acbc", "abcbc"}, []string{"acb", "ac", "abcb"}},
		{"*ab*ab*", []string{"abab", "xabyabz", "aababb"}, []string{"ab", "aab", "abaa"}},
		{"*aab", []string{"aab", "aaab", "aabaab"}, []string{"ab", "aaba"}},
		{"ab*bx", []string{"abbx", "abxbx"}, []string{"abx", "ab"}},
		{"é*é", []string{"éé", "ééé", "éaé"}, []string{"é", "eé"}},
		{"*\u00a9", []string{"©", "é©"}, []string{"é", ""}},
		{"box/?*", []string{"box/1", "box/é", "box/a/b"}, []string{"box/", "box", "boxes/1"}},
		{"$*", []string{"*"}, []string{"", "x", "$*", "**"}},
		{"$?", []string{"?"}, []string{"", "x", "$?"}},
		{"$$", []string{"$"}, []string{"", "$$", "x"}},
		{"$$*", []string{"$", "$*", "$x"}, []string{"", "*"}},
		{"$$$*", []string{"$*"}, []string{"$", "$x"}},
		{"$*$**", []string{"**", "**x"}, []string{"*", "xx"}},
		{"{}", []string{"{}"}, []string{"", "{a}"}},
		{"}{who}", []string{"}{who}"}, []string{"}ann"}},
		{"\\\"\n", []string{"\\\"\n"}, []string{"\"\n"}},
	} {
		for _, word := range c.yes {
			wantMatch(t, c.pattern, word, api.Request{Who: "ann"}, true)
		}
		for _, word := range c.none {
			wantMatch(t, c.pattern, word, api.Request{Who: "ann"}, false)
		}
	}
}

func TestP7Variables(t *testing.T) {
	r := api.Request{Who: "ann", Do: "read", On: "box/1", Marks: marked("tag", "a*", "tag", "b", "nil", "", "e", "é", "abcdefghijkl", "long")}
	for _, c := range []struct {
		pattern   string
		yes, none []string
	}{
		{"${who}", []string{"ann"}, []string{"", "bob", "${who}", "Ann", "anna", "an"}},
		{"${do}-${on}", []string{"read-box/1"}, []string{"read-", "read-box/2", "box/1-read"}},
		{"${who}${who}", []string{"annann"}, []string{"ann", "annbob"}},
		{"${who}/*", []string{"ann/", "ann/x", "ann/x/y"}, []string{"ann", "bob/x", "/x"}},
		{"*${who}*", []string{"ann", "joann", "annan", "anannn"}, []string{"", "anbn"}},
		{"${tag}", []string{"a*"}, []string{"", "a", "ab", "b", "a*b", "a$*"}},
		{"?${tag}?", []string{"xa*y"}, []string{"xaby", "a*"}},
		{"${nil}", []string{""}, []string{"a"}},
		{"a${nil}b", []string{"ab"}, []string{"a", "b", "acb"}},
		{"*${nil}", []string{"", "x"}, nil},
		{"${nil}${nil}?", []string{"x", "é"}, []string{""}},
		{"${e}?", []string{"éa", "éé"}, []string{"é", "ea"}},
		{"*${e}", []string{"é", "aé", "éé"}, []string{"", "e", "éa"}},
		{"${abcdefghijkl}", []string{"long"}, []string{""}},
		{"$${who}", []string{"${who}"}, []string{"ann", "$ann"}},
		{"$$${who}", []string{"$ann"}, []string{"${who}", "$${who}"}},
		{"$*${who}", []string{"*ann"}, []string{"xann", "ann"}},
		{"${who}}", []string{"ann}"}, []string{"ann"}},
		{"${x}", nil, []string{"", "x", "${x}", "ann"}},
		{"*${x}*", nil, []string{"", "anything", "${x}"}},
		{"${who}${x}", nil, []string{"ann", "ann${x}"}},
		{"${tagg}${whom}", nil, []string{"", "a*"}},
	} {
		for _, word := range c.yes {
			wantMatch(t, c.pattern, word, r, true)
		}
		for _, word := range c.none {
			wantMatch(t, c.pattern, word, r, false)
		}
	}
}

// Of a request that says nothing of itself, who, do and on say the empty text; only other names say nothing.
func TestP7EmptyRequest(t *testing.T) {
	for _, name := range []string{"who", "do", "on"} {
		wantMatch(t, "${"+name+"}", "", api.Request{}, true)
		wantMatch(t, "${"+name+"}", "a", api.Request{}, false)
	}
	for _, name := range []string{"w", "whoo", "mark", "a"} {
		wantMatch(t, "${"+name+"}", "", api.Request{}, false)
		wantMatch(t, "*${"+name+"}", "a", api.Request{}, false)
	}
}

func TestP7WhatIsSaidIsNoPattern(t *testing.T) {
	for _, said := range []string{"*", "?", "$", "$$", "$*", "${do}", "${who}", "${", "${A}", "\\*"} {
		r := api.Request{Who: said, Do: "x", Marks: marked("m", said)}
		for _, pattern := range []string{"${who}/*", "${m}/*"} {
			wantMatch(t, pattern, said+"/x", r, true)
			wantMatch(t, pattern, "x/x", r, false)
			wantMatch(t, pattern, "/x", r, false)
		}
	}
}

func TestP7NoPattern(t *testing.T) {
	for _, p := range []string{
		"$", "$x", "a$", "$$$", "*$", "$ ", "$é", "$}", "${", "${}", "${A}", "${a", "${a1}", "${ a}", "${a }", "${who${do}}", "${abcdefghijklm}", "${é}",
		"\xff", "a\x80", "\xc3", "é\xc3", "\xc0\x80", "\xed\xa0\x80", "\xf4\x90\x80\x80", "$\xff", "${\xff}", "$$\xff",
		strings.Repeat("a", api.MaxPattern+1), strings.Repeat("*", api.MaxPattern+1), strings.Repeat("é", api.MaxPattern/2) + "a", strings.Repeat("a", 5_000_000),
	} {
		wantNoMatch(t, p, "", api.Request{}, api.ErrPattern)
		wantNoMatch(t, p, p, api.Request{}, api.ErrPattern)
	}
}

func TestP7PatternsAtTheLimit(t *testing.T) {
	most := strings.Repeat("a", api.MaxPattern)
	wantMatch(t, most, most, api.Request{}, true)
	wantMatch(t, most, most+"a", api.Request{}, false)
	half := strings.Repeat("é", api.MaxPattern/2)
	wantMatch(t, half, half, api.Request{}, true)
	wantMatch(t, strings.Repeat("$$", api.MaxPattern/2), strings.Repeat("$", api.MaxPattern/2), api.Request{}, true)
	wantMatch(t, strings.Repeat("?", api.MaxPattern), strings.Repeat("é", api.MaxWord/2), api.Request{}, false)
	wantMatch(t, strings.Repeat("?", api.MaxWord/2), strings.Repeat("é", api.MaxWord/2), api.Request{}, true)
}

// wrongRequests are those that may not be, each for one reason.
func wrongRequests() []api.Request {
	long := strings.Repeat("a", api.MaxWord+1)
	out := []api.Request{{Marks: make([]api.Mark, api.MaxMarks+1)}, {Marks: marked(times(2*(api.MaxMarks+1), "m")...)}}
	for _, wrong := range []string{long, strings.Repeat("é", api.MaxWord/2) + "a", "\x80", "\xc3", "a\xff", "\xed\xa0\x80", "\xc0\x80", "\xf4\x90\x80\x80"} {
		out = append(out, api.Request{Who: wrong}, api.Request{Do: wrong}, api.Request{On: wrong},
			api.Request{Marks: marked("a", wrong)}, api.Request{Marks: marked("a", "", "b", wrong)}, api.Request{Marks: marked("a", "", "a", wrong)})
	}
	for _, name := range []string{"who", "do", "on", "", "A", "a1", "a b", "é", "\xff", "${a}", "abcdefghijklm", long} {
		out = append(out, api.Request{Marks: marked(name, "a")}, api.Request{Marks: marked("a", "", name, "")})
	}
	return out
}

func TestP7RequestsThatMayNotBe(t *testing.T) {
	for _, r := range wrongRequests() {
		for _, pattern := range []string{"*", "", "a", "${who}", "${none}"} {
			wantNoMatch(t, pattern, "", r, api.ErrRequest)
			wantNoMatch(t, pattern, "a", r, api.ErrRequest)
			wantNoMatch(t, pattern, "\xff", r, api.ErrRequest)
		}
	}
}

func TestP7RequestsAtTheLimits(t *testing.T) {
	most := strings.Repeat("a", api.MaxWord)
	half := strings.Repeat("é", api.MaxWord/2)
	full := []string{}
	for i := range api.MaxMarks {
		full = append(full, strings.Repeat("m", api.MaxName-i), most)
	}
	for _, r := range []api.Request{
		{}, {Who: most, Do: most, On: most}, {Who: half, Do: half, On: half}, {Marks: []api.Mark{}}, {Marks: marked(full...)}, {Who: half, Do: half, On: half, Marks: marked(full...)},
		{Marks: marked(times(2*api.MaxMarks, "m")...)}, {Who: "\x00\n", Do: "\ufffd", On: "𝄞", Marks: marked("whom", "", "d", "$", "o", "\x7f")},
	} {
		for _, word := range []string{"", most, half} {
			wantMatch(t, "*", word, r, true)
		}
	}
	wantMatch(t, "${mmm}", most, api.Request{Marks: marked(full...)}, true)
	wantMatch(t, "${who}", most, api.Request{Who: most}, true)
	wantMatch(t, "${who}a", most, api.Request{Who: most}, false)
	wantMatch(t, "${who}${do}", half, api.Request{Who: half[:50], Do: half[50:]}, true)
	wantMatch(t, strings.Repeat("${who}", 10), most, api.Request{Who: most}, false)
	wantMatch(t, strings.Repeat("${who}", 10), most, api.Request{Who: most[:10]}, true)
}

func TestP7Words(t *testing.T) {
	for _, word := range []string{
		strings.Repeat("a", api.MaxWord+1), strings.Repeat("é", api.MaxWord/2) + "a", strings.Repeat("a", 5_000_000),
		"\x80", "\xc3", "\xff", "é\xa9", "\xc3(", "\xc0\x80", "\xe0\x80\x80", "\xed\xa0\x80", "\xf0\x80\x80\x80", "\xf4\x90\x80\x80", "\xf0\x9d\x84",
	} {
		for _, pattern := range []string{"*", "?", "", "a", "${none}"} {
			wantNoMatch(t, pattern, word, api.Request{}, api.ErrRequest)
		}
	}
}

func TestP7PatternAheadOfRequest(t *testing.T) {
	long := strings.Repeat("a", api.MaxWord+1)
	for _, pattern := range []string{"$", "${A}", "\xff", strings.Repeat("a", api.MaxPattern+1)} {
		wantNoMatch(t, pattern, "\xff", api.Request{}, api.ErrPattern)
		wantNoMatch(t, pattern, long, api.Request{}, api.ErrPattern)
		for _, r := range wrongRequests() {
			wantNoMatch(t, pattern, "", r, api.ErrPattern)
			wantNoMatch(t, pattern, long, r, api.ErrPattern)
		}
	}
}

// Each of these ends at once, where trying all that every star could take would not end at all.
func TestP7ManyStars(t *testing.T) {
	word := strings.Repeat("a", api.MaxWord)
	r := api.Request{Who: strings.Repeat("a", 5), Marks: marked("e", "")}
	for _, c := range []struct {
		pattern string
		want    bool
	}{
		{strings.Repeat("*", 60), true}, {strings.Repeat("*a", 30), true}, {strings.Repeat("a*", 30), true}, {strings.Repeat("*?", 30), true},
		{strings.Repeat("*a", 29) + "*b", false}, {strings.Repeat("a*", 29) + "b", false}, {strings.Repeat("*?", 29) + "b", false}, {strings.Repeat("*", 59) + "b", false},
		{strings.Repeat("*aa", 19) + "*b*", false}, {strings.Repeat("*${who}", 8), true}, {strings.Repeat("${who}*", 8) + "b", false}, {strings.Repeat("*${e}", 11) + "b", false}, {strings.Repeat("*${e}", 12), true},
	} {
		wantMatch(t, c.pattern, word, r, c.want)
	}
	wantMatch(t, strings.Repeat("*a", 29)+"*", strings.Repeat("a", 28), r, false)
	wantMatch(t, strings.Repeat("*a", 29)+"*", strings.Repeat("a", 29), r, true)
	wantMatch(t, strings.Repeat("*é", 20), strings.Repeat("é", 19), r, false)
	wantMatch(t, strings.Repeat("*é", 20), strings.Repeat("é", 50), r, true)
}

func TestP7Examples(t *testing.T) {
	ann := api.Request{Who: "ann"}
	wantMatch(t, "a*b", "ab", ann, true)
	wantMatch(t, "a*b", "axxb", ann, true)
	wantMatch(t, "a*b", "abc", ann, false)
	wantMatch(t, "?", "é", ann, true)
	wantMatch(t, "?", "ab", ann, false)
	wantNoMatch(t, "?", "\xc3", ann, api.ErrRequest)
	wantMatch(t, "${who}/*", "ann/x", ann, true)
	wantMatch(t, "${who}/*", "ann/x", api.Request{Who: "*"}, false)
	wantMatch(t, "${who}/*", "*/x", api.Request{Who: "*"}, true)
	wantMatch(t, "$*", "*", ann, true)
	wantMatch(t, "$*", "x", ann, false)
	for _, word := range []string{"", "a", "${tag}"} {
		wantMatch(t, "${tag}", word, ann, false)
	}
	for _, pattern := range []string{"$x", "${}", "${A}", "$"} {
		wantNoMatch(t, pattern, "", ann, api.ErrPattern)
	}
}

// P2: marks are read, and neither they nor the room behind them are written into.
func TestP7LeavesMarksAlone(t *testing.T) {
	room := marked("b", "2", "a", "1", "b", "3", "z", "spare", "y", "spare")
	before := slices.Clone(room)
	r := api.Request{Who: "w", Marks: room[:3]}
	wantMatch(t, "*${a}${b}", "x12", r, true)
	wantMatch(t, "${z}", "spare", r, false)
	wantNoMatch(t, "$", "", r, api.ErrPattern)
	wantNoMatch(t, "*", "\xff", r, api.ErrRequest)
	if !slices.Equal(room, before) {
		t.Errorf("the marks became %v", room)
	}
}

// P2: what was asked before does not count.
func TestP7HangsOnItsArguments(t *testing.T) {
	for range 2 {
		wantMatch(t, "${m}", "1", api.Request{Marks: marked("m", "1")}, true)
		wantMatch(t, "${m}", "1", api.Request{Marks: marked("m", "2")}, false)
		wantMatch(t, "${m}", "1", api.Request{}, false)
		wantNoMatch(t, "${M}", "1", api.Request{}, api.ErrPattern)
	}
}
