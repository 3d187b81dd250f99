package layers

import (
	"slices"
	"testing"

	"warrant/api"
	"warrant/documents"
)

// document is one that can be told from others by its number of statements.
func document(statements int) documents.Document {
	return documents.Document{Statements: make([]documents.Statement, statements)}
}

// layerOf puts documents of 1, 2, 3 .. statements under these names.
func layerOf(t *testing.T, names ...string) Layer {
	t.Helper()
	var l Layer
	for i, name := range names {
		changed, ok := l.With(name, document(i+1))
		if !ok {
			t.Fatalf("no room for %q beside %q", name, l.Names())
		}
		l = changed
	}
	return l
}

func wantNames(t *testing.T, l Layer, names ...string) {
	t.Helper()
	if !slices.Equal(l.Names(), names) {
		t.Errorf("names: %q, want %q", l.Names(), names)
	}
}

func wantDocument(t *testing.T, l Layer, name string, statements int) {
	t.Helper()
	if d, ok := l.Get(name); !ok || len(d.Statements) != statements {
		t.Errorf("Get(%q) of %q: %d statements, %v, want %d", name, l.Names(), len(d.Statements), ok, statements)
	}
}

func TestSorted(t *testing.T) {
	for _, names := range [][]string{{"a", "ab", "b", "z"}, {"z", "b", "ab", "a"}, {"b", "z", "a", "ab"}, {"ab", "a", "z", "b"}} {
		l := layerOf(t, names...)
		wantNames(t, l, "a", "ab", "b", "z")
		for i, name := range names {
			wantDocument(t, l, name, i+1)
		}
	}
}

func TestInPlaceOfAnEarlierOne(t *testing.T) {
	for _, name := range []string{"a", "b", "c", "d"} {
		l, ok := layerOf(t, "d", "b", "a", "c").With(name, document(9))
		if !ok {
			t.Errorf("a full layer does not take %q, which it has", name)
		}
		wantNames(t, l, "a", "b", "c", "d")
		wantDocument(t, l, name, 9)
	}
}

func TestFull(t *testing.T) {
	full := layerOf(t, "b", "d", "f", "h")
	if len(full) != api.MaxDocuments {
		t.Fatalf("%d documents are not a full layer", len(full))
	}
	for _, name := range []string{"a", "c", "e", "g", "i", "bb"} {
		if l, ok := full.With(name, document(9)); ok || l != nil {
			t.Errorf("a full layer takes %q: %q", name, l.Names())
		}
	}
	wantNames(t, full, "b", "d", "f", "h")
}

func TestWithout(t *testing.T) {
	l := layerOf(t, "a", "b", "c")
	for _, c := range []struct {
		name string
		rest []string
	}{{"a", []string{"b", "c"}}, {"b", []string{"a", "c"}}, {"c", []string{"a", "b"}}} {
		rest, ok := l.Without(c.name)
		if _, found := rest.Get(c.name); !ok || found {
			t.Errorf("without %q: %q, %v", c.name, rest.Names(), ok)
		}
		wantNames(t, rest, c.rest...)
	}
	for _, name := range []string{"", "aa", "d"} {
		if rest, ok := l.Without(name); ok || rest != nil {
			t.Errorf("without %q: %q, %v", name, rest.Names(), ok)
		}
		if d, ok := l.Get(name); ok || d.Statements != nil {
			t.Errorf("Get(%q) = %v, %v", name, d, ok)
		}
	}
	wantNames(t, l, "a", "b", "c")
}

// Layers that come of one and the same don't share what a change would write into.
func TestChangesMakeAnother(t *testing.T) {
	l := layerOf(t, "b", "d")
	first, _ := l.With("c", document(5))
	second, _ := l.With("a", document(6))
	third, _ := l.With("b", document(7))
	fourth, _ := l.Without("b")
	fifth, _ := fourth.With("e", document(8))
	wantNames(t, l, "b", "d")
	wantNames(t, first, "b", "c", "d")
	wantNames(t, second, "a", "b", "d")
	wantNames(t, third, "b", "d")
	wantNames(t, fourth, "d")
	wantNames(t, fifth, "d", "e")
	wantDocument(t, l, "b", 1)
	wantDocument(t, first, "b", 1)
	wantDocument(t, third, "b", 7)
}

// ruling is a document of statements about everything, with these effects.
func ruling(effects ...string) documents.Document {
	all := documents.Choice{Patterns: []string{"*"}}
	var d documents.Document
	for _, effect := range effects {
		d.Statements = append(d.Statements, documents.Statement{Effect: effect, Who: all, Do: all, On: all})
	}
	return d
}

func wantFirst(t *testing.T, l Layer, effect, name string, number int) {
	t.Helper()
	gotName, gotNumber, found := l.First(effect, api.Request{})
	if gotName != name || gotNumber != number || found != (number > 0) {
		t.Errorf("First(%q) of %q = %q, %d, %v, want %q, %d", effect, l.Names(), gotName, gotNumber, found, name, number)
	}
}

func TestFirst(t *testing.T) {
	var l Layer
	wantFirst(t, l, documents.Allow, "", 0)
	wantFirst(t, l, documents.Deny, "", 0)
	l, _ = l.With("c", ruling("allow", "deny", "deny"))
	wantFirst(t, l, documents.Allow, "c", 1)
	wantFirst(t, l, documents.Deny, "c", 2)
	l, _ = l.With("b", ruling("allow", "allow"))
	wantFirst(t, l, documents.Allow, "b", 1)
	wantFirst(t, l, documents.Deny, "c", 2)
	l, _ = l.With("a", ruling("deny"))
	wantFirst(t, l, documents.Allow, "b", 1)
	wantFirst(t, l, documents.Deny, "a", 1)
	l, _ = l.Without("c")
	l, _ = l.Without("a")
	wantFirst(t, l, documents.Deny, "", 0)
}
