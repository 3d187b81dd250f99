package documents

import (
	"strings"

	"warrant/lists"
	"warrant/patterns"
)

// answer is what a condition's key says, if it is there; says is for the variables of patterns.
type answer struct {
	said  string
	there bool
	says  patterns.Says
}

// holds tells whether the condition holds by what names say.
func (c Condition) holds(says patterns.Says) bool {
	op, found := operationNamed(c.Op)
	said, there := says(c.Key)
	return found && op.test(answer{said, there, says}, c.Values) != c.No
}

func isLike(x answer, values []string) bool {
	return x.there && anyMatches(values, x.said, x.says)
}

func isSame(x answer, values []string) bool { return x.there && lists.Has(values, x.said) }

func isBelow(x answer, values []string) bool {
	return x.there && isWholeNumber(x.said) && lists.HasAbove(lists.Map(values, number), number(x.said))
}

func isUnder(x answer, values []string) bool {
	return x.there && lists.Any(values, func(top string) bool {
		return x.said == top || strings.HasPrefix(x.said, top+"/")
	})
}

func isAbsent(x answer, _ []string) bool { return !x.there }

// number can't overflow for a whole number: it has no more digits than an int64 has room for. It adds up the digits itself: strconv's readers come to that package's errors, which the table of operations must not lean on.
func number(whole string) int64 {
	digits, isNegative := strings.CutPrefix(whole, "-")
	var n int64
	for _, digit := range []byte(digits) {
		n = 10*n + int64(digit-'0')
	}
	if isNegative {
		return -n
	}
	return n
}
