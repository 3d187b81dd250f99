// Package documents makes documents of texts, tells what is wrong where a text is none, and which statements apply to a request.
package documents

// The effects of statements.
const (
	Allow = "allow"
	Deny  = "deny"
)

// Document is what a text says that is a document.
type Document struct {
	Statements []Statement
}

// Statement allows or denies.
type Statement struct {
	Effect      string
	Who, Do, On Choice
	If          []Condition
}

// Choice is patterns, or all but what they take.
type Choice struct {
	Not      bool
	Patterns []string
}

// Condition asks something of what its key says.
type Condition struct {
	Op, Key string
	Values  []string
	No      bool
}
