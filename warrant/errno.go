package warrant

import (
	"errors"

	"warrant/api"
	"warrant/documents"
	"warrant/patterns"
	"warrant/texts"
)

// errnoOf tells what kept a text from being a document or a pattern, and its place or the statement's number.
func errnoOf(err error) (api.Errno, int) {
	var syntax texts.SyntaxFault
	var deep texts.DeepFault
	var twice texts.TwiceFault
	switch {
	case err == nil:
		return api.OK, 0
	case errors.Is(err, texts.ErrLong):
		return api.ErrLong, 0
	case errors.As(err, &syntax):
		return api.ErrSyntax, syntax.Place
	case errors.As(err, &deep):
		return api.ErrDeep, deep.Place
	case errors.As(err, &twice):
		return api.ErrTwice, twice.Place
	}
	return shapeErrnoOf(err)
}

// shapeErrnoOf tells what is wrong with a right text: 0 stands for what is in no statement.
func shapeErrnoOf(err error) (api.Errno, int) {
	var statement documents.StatementFault
	var pattern patterns.Fault
	number := 0
	if errors.As(err, &statement) {
		number = statement.Number
	}
	if errors.As(err, &pattern) {
		return api.ErrPattern, number
	}
	return api.ErrShape, number
}
