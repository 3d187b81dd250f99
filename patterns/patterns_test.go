package patterns

import (
	"errors"
	"strings"
	"testing"

	"warrant/api"
)

func TestRightPatterns(t *testing.T) {
	for _, p := range []string{
		"", "a", "*", "?", "**??", "é€𝄞", "{}", "}{", "a{b}", "$$", "$*", "$?", "$$$$", "${a}", "${who}/*", "$${", "$$x",
		"${abcdefghijkl}", "${a}${b}", "\n\x00\"\\", "\uFFFD",
		strings.Repeat("a", api.MaxPattern), strings.Repeat("é", api.MaxPattern/2), strings.Repeat("$$", api.MaxPattern/2),
	} {
		if _, err := Read(p); err != nil {
			t.Errorf("Read(%q) = %v", p, err)
		}
	}
}

func TestWrongPatterns(t *testing.T) {
	for _, c := range []struct {
		pattern string
		place   int
	}{
		{"$", 0}, {"$x", 0}, {"${", 0}, {"${}", 0}, {"${A}", 0}, {"${a", 0}, {"${a1}", 0}, {"${a }", 0}, {"${é}", 0},
		{"${abcdefghijklm}", 0}, {"$}", 0}, {"$ ", 0}, {"$é", 0}, {"${a${b}", 0},
		{"a$", 1}, {"$$$", 2}, {"é$a", 2}, {"${a}${", 4}, {"$*$", 2}, {"*?$-", 2},
		{"\xc3", 0}, {"a\xff", 1}, {"é\xa9", 2}, {"\xed\xa0\x80", 0}, {"$$\xc0\x80", 2},
		{strings.Repeat("a", api.MaxPattern+1), api.MaxPattern}, {strings.Repeat("é", api.MaxPattern/2) + "a", api.MaxPattern},
	} {
		var fault Fault
		if p, err := Read(c.pattern); p != nil || !errors.As(err, &fault) || fault.Place != c.place {
			t.Errorf("Read(%q) = %v, want place %d", c.pattern, err, c.place)
		}
	}
}

func TestNames(t *testing.T) {
	for _, s := range []string{"a", "z", "who", strings.Repeat("m", api.MaxName)} {
		if !IsName(s) {
			t.Errorf("IsName(%q) = false", s)
		}
	}
	for _, s := range []string{"", "A", "a1", "a b", "é", "a-", "`", "{", "a\x00", strings.Repeat("m", api.MaxName+1)} {
		if IsName(s) {
			t.Errorf("IsName(%q) = true", s)
		}
	}
}
