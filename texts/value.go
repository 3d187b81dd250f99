// Package texts reads texts into values, and tells to the byte what is wrong with a text.
package texts

import "warrant/lists"

// Value is what a right text says: a String, a Word, a List or an Object.
type Value interface{ isValue() }

// String is a string as it is meant, not as it is written.
type String string

// Word is one of the words true and false.
type Word bool

// List is a list of values.
type List []Value

// Object has its members in the order of the text; no two have the same name.
type Object []Member

// Member is a value with its name.
type Member struct {
	Name  string
	Value Value
}

func (String) isValue() {}
func (Word) isValue()   {}
func (List) isValue()   {}
func (Object) isValue() {}

// Get gives the value of the member of that name, or nil.
func (o Object) Get(name string) Value {
	at, found := lists.First(o, func(m Member) bool { return m.Name == name })
	if !found {
		return nil
	}
	return o[at].Value
}
