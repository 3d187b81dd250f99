// Package lists: what is asked of a list whatever it is made of.
package lists

import "cmp"

// First tells the place of the first one that the test takes, and whether there is any.
func First[T any](list []T, test func(T) bool) (int, bool) {
	for at, one := range list {
		if test(one) {
			return at, true
		}
	}
	return 0, false
}

// Any tells whether the test takes one of the list.
func Any[T any](list []T, test func(T) bool) bool {
	_, found := First(list, test)
	return found
}

// All tells whether the test takes each of the list.
func All[T any](list []T, test func(T) bool) bool {
	return !Any(list, func(one T) bool { return !test(one) })
}

// Has tells whether one of the list is the same as this one.
func Has[T comparable](list []T, this T) bool {
	return Any(list, func(one T) bool { return one == this })
}

// HasAbove tells whether one of the list is greater than this one.
func HasAbove[T cmp.Ordered](list []T, this T) bool {
	return Any(list, func(one T) bool { return one > this })
}

// Map turns each of the list into another.
func Map[A, B any](list []A, turn func(A) B) []B {
	out := make([]B, 0, len(list))
	for _, one := range list {
		out = append(out, turn(one))
	}
	return out
}

// Each reads every one of the list, whatever is wrong with others: each fault (or nil) stands at the place of the one that has it.
func Each[A, B any](list []A, read func(A) (B, error)) ([]B, []error) {
	out := make([]B, len(list))
	faults := make([]error, len(list))
	for at, one := range list {
		out[at], faults[at] = read(one)
	}
	return out, faults
}
