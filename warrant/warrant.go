// Package warrant: who may do what on what, by documents in four layers: see DOC.md.
package warrant

import (
	"warrant/api"
	"warrant/documents"
	"warrant/layers"
	"warrant/patterns"
	"warrant/requests"
)

// Office keeps documents, and decides.
type Office struct {
	layers [api.Layers]layers.Layer
}

// Check tells whether a text is a document, and where it is not (P3 to P5).
func Check(text string) (api.Errno, int) {
	_, err := documents.Read(text)
	return errnoOf(err)
}

// Print tells a document in its plain form (P6).
func Print(text string) (string, api.Errno) {
	document, err := documents.Read(text)
	if err != nil {
		errno, _ := errnoOf(err)
		return "", errno
	}
	return document.Plain(), api.OK
}

// Matches tells whether a pattern matches a word, for a request (P7).
func Matches(pattern string, word string, r api.Request) (bool, api.Errno) {
	p, err := patterns.Read(pattern)
	if err != nil {
		errno, _ := errnoOf(err)
		return false, errno
	}
	if !requests.MayBe(r) || !requests.IsWord(word) {
		return false, api.ErrRequest
	}
	return p.Matches(word, requests.Saying(r)), api.OK
}

// New gives an office without documents (P8).
func New() *Office { return &Office{} }

// Put keeps a document (P9).
func (o *Office) Put(layer int, name string, text string) (api.Errno, int) {
	if errno := placeErrno(layer, name); errno != api.OK {
		return errno, 0
	}
	document, err := documents.Read(text)
	if err != nil {
		return errnoOf(err)
	}
	changed, ok := o.layers[layer].With(name, document)
	if !ok {
		return api.ErrFull, 0
	}
	o.layers[layer] = changed
	return api.OK, 0
}

// Drop lets a document go (P10).
func (o *Office) Drop(layer int, name string) api.Errno {
	if errno := placeErrno(layer, name); errno != api.OK {
		return errno
	}
	changed, ok := o.layers[layer].Without(name)
	if !ok {
		return api.ErrNone
	}
	o.layers[layer] = changed
	return api.OK
}

// Show tells a document that is kept, in its plain form (P10).
func (o *Office) Show(layer int, name string) (string, api.Errno) {
	if errno := placeErrno(layer, name); errno != api.OK {
		return "", errno
	}
	document, ok := o.layers[layer].Get(name)
	if !ok {
		return "", api.ErrNone
	}
	return document.Plain(), api.OK
}

// Names tells the names of a layer's documents (P10).
func (o *Office) Names(layer int) ([]string, api.Errno) {
	if !isLayer(layer) {
		return nil, api.ErrLayer
	}
	return o.layers[layer].Names(), api.OK
}

// Decide decides a request (P11, P12).
func (o *Office) Decide(r api.Request) (api.Decision, api.Errno) {
	if !requests.MayBe(r) {
		return api.Decision{}, api.ErrRequest
	}
	return o.decide(r), api.OK
}
