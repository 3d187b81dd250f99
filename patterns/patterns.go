// Package patterns: which texts are patterns, and which words they match; which texts are names.
package patterns

import (
	"strconv"
	"strings"
	"unicode/utf8"

	"warrant/api"
	"warrant/lists"
)

// Signs that stand for other characters: no character has a number below 0.
const (
	one  rune = -1 - iota // any single character
	many                  // any characters, none too
)

// Pattern is the parts of a pattern, in their order.
type Pattern []part

// part is a variable, if it has a name; else a character that stands for itself, or a sign.
type part struct {
	sign rune
	name string
}

// Fault: the text is no pattern because of what stands at the byte at Place.
type Fault struct{ Place int }

func (f Fault) Error() string { return "no pattern at byte " + strconv.Itoa(f.Place) }

// Read makes a pattern of a text; the error is a Fault.
func Read(text string) (Pattern, error) {
	if len(text) > api.MaxPattern {
		return nil, Fault{api.MaxPattern}
	}
	var p Pattern
	for at := 0; at < len(text); {
		next, size := readPart(text[at:])
		if size == 0 {
			return nil, Fault{at}
		}
		p = append(p, next)
		at += size
	}
	return p, nil
}

// readPart tells the first part of the text and how many bytes it has; 0, if no pattern begins so.
func readPart(text string) (part, int) {
	switch text[0] {
	case '*':
		return part{sign: many}, 1
	case '?':
		return part{sign: one}, 1
	case '$':
		return readDollar(text[1:])
	}
	c, size := utf8.DecodeRuneInString(text)
	if c == utf8.RuneError && size == 1 {
		return part{}, 0
	}
	return part{sign: c}, size
}

// readDollar reads a part that begins with a dollar, by what stands behind it.
func readDollar(behind string) (part, int) {
	if behind == "" {
		return part{}, 0
	}
	switch b := behind[0]; b {
	case '$', '*', '?':
		return part{sign: rune(b)}, len("$$")
	case '{':
		name, _, closed := strings.Cut(behind[1:], "}")
		if closed && IsName(name) {
			return part{name: name}, len("${") + len(name) + len("}")
		}
	}
	return part{}, 0
}

// IsName tells whether a text is a name.
func IsName(text string) bool {
	return 0 < len(text) && len(text) <= api.MaxName && lists.All([]byte(text), isLetter)
}

func isLetter(b byte) bool { return 'a' <= b && b <= 'z' }
