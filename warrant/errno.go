package warrant

import (
	"errors"

	"warrant/api"
	"warrant/documents"
	"warrant/patterns"
	"warrant/texts"
)

// errnoOf tells what kept a text from being a document or a pattern, and its place or the statement's number.
func errnoOf(err error) (api.Errno, int) {
	var syntax texts.SyntaxFault
	var deep texts.DeepFault
	var twice texts.TwiceFault
	switch {
	case err == nil:
		return api.OK, 0
	case errors.Is(err, texts.ErrLong):
		return api.ErrLong, 0
	case errors.As(err, &syntax):
		return api.ErrSyntax, syntax.Place
	case errors.As(err, &deep):
		return api.ErrDeep, deep.Place
	case errors.As(err, &twice):
		return api.ErrTwice, twice.Place
	}
	return shapeErrnoOf(err)
}

// shapeErrnoOf tells what is wrong with a right text: 0 stands for what is in no statement.
func shapeErrnoOf(err error) (api.Errno, int) {
	var statement documents.StatementFault
	var pattern patterns.Fault
	number := 0
	if errors.As(err, &statement) {
		number = statement.Number
	}
	if errors.As(err, &pattern) {
		return api.ErrPattern, number
	}
	return api.ErrShape, number
}

// placeErrno tells what keeps a layer and a name from being a place where a document can lie.
func placeErrno(layer int, name string) api.Errno {
	switch {
	case !isLayer(layer):
		return api.ErrLayer
	case !patterns.IsName(name):
		return api.ErrName
	}
	return api.OK
}

func isLayer(layer int) bool { return 0 <= layer && layer < api.Layers }
