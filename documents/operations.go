package documents

import (
	"strings"

	"warrant/api"
	"warrant/lists"
	"warrant/texts"
)

const maxDigits = 18

// operation is what a condition may ask.
type operation struct {
	name string
	// look takes what the member value says (nil, if it is missing).
	look func(texts.Value) ([]string, error)
	// test holds what the key says against values that look took.
	test func(x answer, values []string) bool
}

// operations: no function in it may ask for an operation, or the table would be needed to make itself; nor may one come to strconv's package-level errors, which a starting value must not lean on.
var operations = [...]operation{
	{name: "like", look: likeValues, test: isLike},
	{name: "same", look: sameValues, test: isSame},
	{name: "below", look: belowValues, test: isBelow},
	{name: "under", look: underValues, test: isUnder},
	{name: "absent", look: absentValues, test: isAbsent},
}

// operationNamed gives the operation of that name, if there is one.
func operationNamed(name string) (operation, bool) {
	for _, op := range operations {
		if op.name == name {
			return op, true
		}
	}
	return operation{}, false
}

func readOperation(v texts.Value) (operation, error) {
	name, isString := v.(texts.String)
	op, found := operationNamed(string(name))
	if !isString || !found {
		return operation{}, ShapeFault{"op"}
	}
	return op, nil
}

func likeValues(v texts.Value) ([]string, error) { return oneOrList(v, readPattern) }

func sameValues(v texts.Value) ([]string, error) { return stringsThat(v, isShort) }

func belowValues(v texts.Value) ([]string, error) { return stringsThat(v, isWholeNumber) }

func underValues(v texts.Value) ([]string, error) { return stringsThat(v, isShortAndFilled) }

func absentValues(v texts.Value) ([]string, error) {
	if v != nil {
		return nil, ShapeFault{"value"}
	}
	return nil, nil
}

// stringsThat reads one string or a list of them, each as it must be.
func stringsThat(v texts.Value, isRight func(string) bool) ([]string, error) {
	return oneOrList(v, func(one texts.Value) (string, error) { return readString(one, isRight) })
}

func isShort(s string) bool { return len(s) <= api.MaxPattern }

func isShortAndFilled(s string) bool { return s != "" && isShort(s) }

func isWholeNumber(s string) bool {
	digits := strings.TrimPrefix(s, "-")
	if s == "0" {
		return true
	}
	return 0 < len(digits) && len(digits) <= maxDigits && digits[0] != '0' && lists.All([]byte(digits), isDigit)
}

func isDigit(b byte) bool { return '0' <= b && b <= '9' }
