// Package requests: which requests may be, and what a name says in one.
package requests

import (
	"unicode/utf8"

	"warrant/api"
	"warrant/lists"
	"warrant/patterns"
)

// MayBe tells whether all of a request is within what it may say.
func MayBe(r api.Request) bool {
	return IsWord(r.Who) && IsWord(r.Do) && IsWord(r.On) &&
		len(r.Marks) <= api.MaxMarks && lists.All(r.Marks, isMark)
}

// IsWord tells whether a text may be asked about.
func IsWord(text string) bool { return len(text) <= api.MaxWord && utf8.ValidString(text) }

// isMark keeps out the names that the request's own words have, so that each name says one thing.
func isMark(m api.Mark) bool {
	switch m.Name {
	case "who", "do", "on":
		return false
	}
	return patterns.IsName(m.Name) && IsWord(m.Value)
}

// Saying asks one and the same request what names say.
func Saying(r api.Request) patterns.Says {
	return func(name string) (string, bool) { return Says(r, name) }
}

// Says tells what a name says in a request, and whether it says anything.
func Says(r api.Request, name string) (string, bool) {
	switch name {
	case "who":
		return r.Who, true
	case "do":
		return r.Do, true
	case "on":
		return r.On, true
	}
	at, found := lists.First(r.Marks, func(m api.Mark) bool { return m.Name == name })
	if !found {
		return "", false
	}
	return r.Marks[at].Value, true
}
