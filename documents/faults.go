package documents

import (
	"errors"
	"strconv"

	"warrant/lists"
)

// ShapeFault: Part of a document is not made as it must be.
type ShapeFault struct{ Part string }

func (f ShapeFault) Error() string { return "no right " + f.Part }

// StatementFault wraps what is wrong with a statement, with the statement's number (from 1 on).
type StatementFault struct {
	Number int
	Fault  error
}

func (f StatementFault) Error() string {
	return "statement " + strconv.Itoa(f.Number) + ": " + f.Fault.Error()
}

// Unwrap gives what is wrong with the statement.
func (f StatementFault) Unwrap() error { return f.Fault }

// gravest gives the first fault of shape, or else the first at all: a string that is no pattern is told just if nothing else is wrong.
func gravest(faults ...error) error {
	if at, found := lists.First(faults, isShapeFault); found {
		return faults[at]
	}
	if at, found := lists.First(faults, isFault); found {
		return faults[at]
	}
	return nil
}

func isShapeFault(err error) bool {
	var shape ShapeFault
	return errors.As(err, &shape)
}

func isFault(err error) bool { return err != nil }
