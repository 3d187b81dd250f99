// Package layers: the documents of a layer, under their names, and the first statement in there that allows or denies.
package layers

import (
	"slices"
	"strings"

	"warrant/api"
	"warrant/documents"
	"warrant/lists"
)

// Kept is a document under its name.
type Kept struct {
	Name     string
	Document documents.Document
}

// Layer has its documents sorted by their names (byte by byte). It is never written into: a change makes another one, so that two which once were the same don't change one another.
type Layer []Kept

// find tells where a name stands, or would stand, and whether it does.
func (l Layer) find(name string) (int, bool) {
	return slices.BinarySearchFunc(l, name, func(k Kept, name string) int { return strings.Compare(k.Name, name) })
}

// Get gives the document of that name, if there is one.
func (l Layer) Get(name string) (documents.Document, bool) {
	at, found := l.find(name)
	if !found {
		return documents.Document{}, false
	}
	return l[at].Document, true
}

// With gives the layer with a document under a name, in place of an earlier one of it, if there is room.
func (l Layer) With(name string, document documents.Document) (Layer, bool) {
	at, found := l.find(name)
	if !found && len(l) >= api.MaxDocuments {
		return nil, false
	}
	rest := l[at:]
	if found {
		rest = l[at+1:]
	}
	// The name is the caller's, whose memory is not to be held on to.
	kept := Kept{Name: strings.Clone(name), Document: document}
	return slices.Concat(l[:at], Layer{kept}, rest), true
}

// Without gives the layer without the document of that name, if there is one.
func (l Layer) Without(name string) (Layer, bool) {
	at, found := l.find(name)
	if !found {
		return nil, false
	}
	return slices.Concat(l[:at], l[at+1:]), true
}

// First tells the first statement of that effect that applies to a request, by its document's name and its number in there, and whether there is any.
func (l Layer) First(effect string, r api.Request) (string, int, bool) {
	for _, kept := range l {
		if number, found := kept.Document.First(effect, r); found {
			return kept.Name, number, true
		}
	}
	return "", 0, false
}

// Names gives the names of the documents, in their order.
func (l Layer) Names() []string {
	return lists.Map(l, func(k Kept) string { return k.Name })
}
