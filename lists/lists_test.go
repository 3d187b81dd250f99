package lists

import (
	"errors"
	"slices"
	"strconv"
	"testing"
)

func isEven(n int) bool { return n%2 == 0 }

func TestAnyAllFirst(t *testing.T) {
	for _, c := range []struct {
		list     []int
		any, all bool
		at       int
		found    bool
	}{
		{nil, false, true, 0, false},
		{[]int{1, 3}, false, false, 0, false},
		{[]int{1, 2, 4}, true, false, 1, true},
		{[]int{2, 4}, true, true, 0, true},
	} {
		if got := Any(c.list, isEven); got != c.any {
			t.Errorf("Any(%v) = %v", c.list, got)
		}
		if got := All(c.list, isEven); got != c.all {
			t.Errorf("All(%v) = %v", c.list, got)
		}
		if at, found := First(c.list, isEven); at != c.at || found != c.found {
			t.Errorf("First(%v) = %d, %v", c.list, at, found)
		}
	}
}

func TestHas(t *testing.T) {
	names := []string{"a", "b"}
	if !Has(names, "b") || Has(names, "c") || Has(nil, "a") {
		t.Error("Has takes what is not there, or misses what is")
	}
}

func TestHasAbove(t *testing.T) {
	for _, c := range []struct {
		list []int
		this int
		want bool
	}{{nil, 0, false}, {[]int{0}, 0, false}, {[]int{1}, 0, true}, {[]int{-5, 18}, 17, true}, {[]int{18, -5}, 17, true}, {[]int{18, -5}, 18, false}, {[]int{-5, -7}, -6, true}, {[]int{-5, -7}, -5, false}} {
		if got := HasAbove(c.list, c.this); got != c.want {
			t.Errorf("HasAbove(%v, %d) = %v", c.list, c.this, got)
		}
	}
	if !HasAbove([]string{"a", "c"}, "b") || HasAbove([]string{"a", "b"}, "b") {
		t.Error("HasAbove orders texts otherwise")
	}
}

func TestMap(t *testing.T) {
	if got := Map([]int{3, 1, 2}, strconv.Itoa); !slices.Equal(got, []string{"3", "1", "2"}) {
		t.Errorf("Map = %v", got)
	}
}

func TestEachReadsOnBehindAFault(t *testing.T) {
	odd := errors.New("odd")
	half := func(n int) (int, error) {
		if !isEven(n) {
			return 0, odd
		}
		return n / 2, nil
	}
	out, faults := Each([]int{4, 3, 8}, half)
	if !slices.Equal(out, []int{2, 0, 4}) || !slices.Equal(faults, []error{nil, odd, nil}) {
		t.Errorf("Each = %v, %v", out, faults)
	}
}
