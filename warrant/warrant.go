// Package warrant: who may do what on what, by documents in four layers: see DOC.md.
package warrant

import (
	"warrant/api"
	"warrant/documents"
	"warrant/patterns"
	"warrant/requests"
)

// Office keeps documents, and decides.
type Office struct{}

// Check tells whether a text is a document, and where it is not (P3 to P5).
func Check(text string) (api.Errno, int) {
	_, err := documents.Read(text)
	return errnoOf(err)
}

// Print tells a document in its plain form (P6).
func Print(text string) (string, api.Errno) {
	document, err := documents.Read(text)
	if err != nil {
		errno, _ := errnoOf(err)
		return "", errno
	}
	return document.Plain(), api.OK
}

// Matches tells whether a pattern matches a word, for a request (P7).
func Matches(pattern string, word string, r api.Request) (bool, api.Errno) {
	p, err := patterns.Read(pattern)
	if err != nil {
		errno, _ := errnoOf(err)
		return false, errno
	}
	if !requests.MayBe(r) || !requests.IsWord(word) {
		return false, api.ErrRequest
	}
	says := func(name string) (string, bool) { return requests.Says(r, name) }
	return p.Matches(word, says), api.OK
}

// New gives an office without documents (P8).
func New() *Office { return nil }

// Put keeps a document (P9).
func (o *Office) Put(layer int, name string, text string) (api.Errno, int) { return api.OK, 0 }

// Drop lets a document go (P10).
func (o *Office) Drop(layer int, name string) api.Errno { return api.OK }

// Show tells a document that is kept, in its plain form (P10).
func (o *Office) Show(layer int, name string) (string, api.Errno) { return "", api.OK }

// Names tells the names of a layer's documents (P10).
func (o *Office) Names(layer int) ([]string, api.Errno) { return nil, api.OK }

// Decide decides a request (P11, P12).
func (o *Office) Decide(r api.Request) (api.Decision, api.Errno) { return api.Decision{}, api.OK }
