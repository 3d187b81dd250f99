package patterns

import (
	"strings"
	"testing"
	"unicode/utf8"

	"warrant/api"
)

// saying makes what names say out of pairs; the first of a name is the one that counts here too.
func saying(pairs ...string) func(string) (string, bool) {
	return func(name string) (string, bool) {
		for i := 0; i < len(pairs); i += 2 {
			if pairs[i] == name {
				return pairs[i+1], true
			}
		}
		return "", false
	}
}

func read(t *testing.T, text string) Pattern {
	t.Helper()
	p, err := Read(text)
	if err != nil {
		t.Fatalf("Read(%q) = %v", text, err)
	}
	return p
}

// written is a part as a pattern has it, and which beginnings of a word it may stand for.
type written struct {
	text string
	ends func(word string) []int
}

func standsFor(text, what string) written {
	return written{text, func(word string) []int {
		if strings.HasPrefix(word, what) {
			return []int{len(what)}
		}
		return nil
	}}
}

func oneCharacter(word string) []int {
	if word == "" {
		return nil
	}
	_, size := utf8.DecodeRuneInString(word)
	return []int{size}
}

func allCharacters(word string) []int {
	ends := []int{}
	for at := range word {
		ends = append(ends, at)
	}
	return append(ends, len(word))
}

// madeOf tells what the document says of matching: the word is made of what the parts stand for.
func madeOf(word string, parts []written) bool {
	if len(parts) == 0 {
		return word == ""
	}
	for _, end := range parts[0].ends(word) {
		if madeOf(word[end:], parts[1:]) {
			return true
		}
	}
	return false
}

// rows gives all lists of at most so many.
func rows[T any](most int, of []T) [][]T {
	out := [][]T{nil}
	for start := 0; most > 0; most-- {
		end := len(out)
		for _, row := range out[start:end] {
			for _, x := range of {
				out = append(out, append(row[:len(row):len(row)], x))
			}
		}
		start = end
	}
	return out
}

// Every short pattern is held against every short word.
func TestMatchesAsThePartsStand(t *testing.T) {
	kinds := []written{
		standsFor("a", "a"), standsFor("é", "é"), standsFor("$*", "*"), standsFor("${v}", "a*"), standsFor("${e}", ""),
		{"?", oneCharacter}, {"*", allCharacters},
	}
	says := saying("v", "a*", "e", "")
	words := rows(4, []string{"a", "é", "*", "b"})
	for _, parts := range rows(4, kinds) {
		text := ""
		for _, part := range parts {
			text += part.text
		}
		p := read(t, text)
		for _, row := range words {
			word := strings.Join(row, "")
			if got, want := p.Matches(word, says), madeOf(word, parts); got != want {
				t.Fatalf("%q matches %q: %v, want %v", text, word, got, want)
			}
		}
	}
}

// What an earlier star took must be right too: longer words than above, of two characters, under patterns of many stars.
func TestMatchesWithStars(t *testing.T) {
	kinds := []written{standsFor("a", "a"), standsFor("b", "b"), {"*", allCharacters}}
	words := rows(7, []string{"a", "b"})
	for _, parts := range rows(6, kinds) {
		text := ""
		for _, part := range parts {
			text += part.text
		}
		p := read(t, text)
		for _, row := range words {
			word := strings.Join(row, "")
			if got, want := p.Matches(word, saying()), madeOf(word, parts); got != want {
				t.Fatalf("%q matches %q: %v, want %v", text, word, got, want)
			}
		}
	}
}

func TestNamesThatSayNothing(t *testing.T) {
	for _, c := range []struct {
		pattern, word string
		want          bool
	}{
		{"${x}", "", false}, {"*${x}", "x", false}, {"${x}*", "", false}, {"${v}${x}", "a", false}, {"${x}${v}", "a", false}, {"*${x}*", "${x}", false},
		{"${v}", "a", true}, {"${e}", "", true}, {"${e}", "a", false}, {"$${x}", "${x}", true},
	} {
		if got := read(t, c.pattern).Matches(c.word, saying("v", "a", "e", "")); got != c.want {
			t.Errorf("%q matches %q: %v", c.pattern, c.word, got)
		}
	}
}

// A variable's own text is no pattern, whatever is in it.
func TestWhatIsSaidStandsAsItIs(t *testing.T) {
	for _, said := range []string{"*", "?", "$", "$*", "$$", "${w}", "${v}", "${", "a?c", "\x00", "�", "é𝄞"} {
		says := saying("v", said, "w", "other")
		if !read(t, "<${v}>").Matches("<"+said+">", says) {
			t.Errorf("%q is not matched", said)
		}
		for _, word := range []string{"<>", "<x>", "<abc>", "<other>", "<" + said + said + ">"} {
			if read(t, "<${v}>").Matches(word, says) {
				t.Errorf("%q, saying %q, is matched", word, said)
			}
		}
	}
}

func TestManyStarsEndSoon(t *testing.T) {
	word := strings.Repeat("a", api.MaxWord)
	said := strings.Repeat("a", api.MaxWord)
	for _, c := range []struct {
		pattern string
		want    bool
	}{
		{strings.Repeat("*", api.MaxPattern), true}, {strings.Repeat("*a", 30), true}, {strings.Repeat("*a", 29) + "*b", false}, {strings.Repeat("*?", 30), true},
		{strings.Repeat("*?", 29) + "b", false}, {strings.Repeat("*${v}", 12), false}, {"*" + strings.Repeat("${e}*", 11) + "b", false}, {strings.Repeat("*${e}", 11) + "${v}", true},
	} {
		if got := read(t, c.pattern).Matches(word, saying("v", said, "e", "")); got != c.want {
			t.Errorf("%q: %v", c.pattern, got)
		}
	}
}

func TestMatchTakesPatternsAlone(t *testing.T) {
	for _, c := range []struct {
		text, word string
		want       bool
	}{
		{"a*", "ab", true}, {"a*", "b", false}, {"", "", true}, {"", "a", false}, {"${v}", "*", true}, {"${v}", "a", false}, {"${x}", "", false},
		{"$", "$", false}, {"$", "", false}, {"${", "${", false}, {"\xff", "\xff", false}, {strings.Repeat("*", api.MaxPattern+1), "", false},
	} {
		if got := Match(c.text, c.word, saying("v", "*")); got != c.want {
			t.Errorf("Match(%q, %q) = %v", c.text, c.word, got)
		}
	}
}
