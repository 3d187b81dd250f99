package texts

import (
	"errors"
	"strconv"
)

// ErrLong has no place: a text that is too long is not read at all.
var ErrLong = errors.New("the text is too long")

// SyntaxFault: the beginning of some right text ends ahead of the byte at Place.
type SyntaxFault struct{ Place int }

// DeepFault: the object or list that begins at Place is too deep.
type DeepFault struct{ Place int }

// TwiceFault: the name that is closed at Place is one of an earlier member.
type TwiceFault struct{ Place int }

func (f SyntaxFault) Error() string { return "no right text goes on so" + atByte(f.Place) }

func (f DeepFault) Error() string { return "too deep" + atByte(f.Place) }

func (f TwiceFault) Error() string { return "the same name twice" + atByte(f.Place) }

func atByte(place int) string { return " at byte " + strconv.Itoa(place) }
