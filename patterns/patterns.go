// Package patterns: which texts are patterns, and which are names.
package patterns

import (
	"strconv"
	"strings"
	"unicode/utf8"

	"warrant/api"
	"warrant/lists"
)

// Fault: the text is no pattern because of what stands at the byte at Place.
type Fault struct{ Place int }

func (f Fault) Error() string { return "no pattern at byte " + strconv.Itoa(f.Place) }

// Check tells what keeps a text from being a pattern: a Fault, or nil.
func Check(text string) error {
	if len(text) > api.MaxPattern {
		return Fault{api.MaxPattern}
	}
	for at := 0; at < len(text); {
		size := partSize(text[at:])
		if size == 0 {
			return Fault{at}
		}
		at += size
	}
	return nil
}

// partSize tells how many bytes the first part of the text has; 0, if no pattern begins so.
func partSize(text string) int {
	if text[0] == '$' {
		return dollarSize(text[1:])
	}
	c, size := utf8.DecodeRuneInString(text)
	if c == utf8.RuneError && size == 1 {
		return 0
	}
	return size
}

// dollarSize tells the size of a part that begins with a dollar, by what stands behind it.
func dollarSize(behind string) int {
	if behind == "" {
		return 0
	}
	switch behind[0] {
	case '$', '*', '?':
		return len("$$")
	case '{':
		name, _, closed := strings.Cut(behind[1:], "}")
		if closed && IsName(name) {
			return len("${") + len(name) + len("}")
		}
	}
	return 0
}

// IsName tells whether a text is a name.
func IsName(text string) bool {
	return 0 < len(text) && len(text) <= api.MaxName && lists.All([]byte(text), isLetter)
}

func isLetter(b byte) bool { return 'a' <= b && b <= 'z' }
