package documents

import (
	"strconv"
	"strings"
	"testing"

	"warrant/api"
)

var ann = api.Request{Who: "ann", Do: "read", On: "box/1", Marks: []api.Mark{{Name: "age", Value: "7"}, {Name: "age", Value: "70"}, {Name: "void", Value: ""}}}

func says(name string) (string, bool) {
	values := map[string]string{"who": "ann", "age": "7", "void": "", "home": "box/1"}
	said, there := values[name]
	return said, there
}

// Every row tells both how it looks at values and how it tests.
func TestOperationsAreWhole(t *testing.T) {
	names := map[string]int{}
	for _, op := range operations {
		names[op.name]++
		if op.look == nil || op.test == nil {
			t.Errorf("%q lacks a function", op.name)
		}
		if got, found := operationNamed(op.name); !found || got.name != op.name {
			t.Errorf("operationNamed(%q) = %q, %v", op.name, got.name, found)
		}
	}
	for _, name := range []string{"like", "same", "below", "under", "absent"} {
		if names[name] != 1 {
			t.Errorf("%q stands %d times in the table", name, names[name])
		}
	}
	for _, name := range []string{"", "Like", "above", "absent "} {
		if _, found := operationNamed(name); found {
			t.Errorf("there is an operation %q", name)
		}
	}
}

func TestHolds(t *testing.T) {
	for _, c := range []struct {
		op, key string
		values  []string
		want    bool
	}{
		{"like", "who", []string{"x", "a*"}, true}, {"like", "who", []string{"${who}"}, true}, {"like", "who", []string{"${none}", "x"}, false}, {"like", "void", []string{"*"}, true}, {"like", "none", []string{"*"}, false},
		{"same", "who", []string{"x", "ann"}, true}, {"same", "who", []string{"*"}, false}, {"same", "void", []string{""}, true}, {"same", "none", []string{""}, false},
		{"below", "age", []string{"7", "8"}, true}, {"below", "age", []string{"7", "-8"}, false}, {"below", "age", []string{"10"}, true}, {"below", "who", []string{"10"}, false}, {"below", "void", []string{"10"}, false}, {"below", "none", []string{"10"}, false},
		{"under", "home", []string{"x", "box"}, true}, {"under", "home", []string{"box/1"}, true}, {"under", "home", []string{"bo", "box/", "box/1/"}, false}, {"under", "void", []string{"box"}, false}, {"under", "none", []string{"box"}, false},
		{"absent", "none", nil, true}, {"absent", "void", nil, false}, {"absent", "who", nil, false},
	} {
		for _, no := range []bool{false, true} {
			condition := Condition{Op: c.op, Key: c.key, Values: c.values, No: no}
			if got := condition.holds(says); got != (c.want != no) {
				t.Errorf("%+v holds: %v", condition, got)
			}
		}
	}
}

func TestNoSuchOperationNeverHolds(t *testing.T) {
	for _, no := range []bool{false, true} {
		if (Condition{Op: "above", Key: "who", No: no}).holds(says) {
			t.Errorf("it holds, with no = %v", no)
		}
	}
}

func TestTakes(t *testing.T) {
	for _, c := range []struct {
		patterns []string
		want     bool
	}{
		{[]string{"ann"}, true}, {[]string{"x", "a*"}, true}, {[]string{"x", "y"}, false}, {[]string{"${who}"}, true}, {[]string{"${none}"}, false}, {[]string{"*${none}", "ann"}, true},
	} {
		for _, not := range []bool{false, true} {
			if got := (Choice{Not: not, Patterns: c.patterns}).takes("ann", says); got != (c.want != not) {
				t.Errorf("%q, not = %v: %v", c.patterns, not, got)
			}
		}
	}
}

// Texts of each count of digits, at its ends and between them, are read as the library reads them.
func TestNumbers(t *testing.T) {
	whole := []string{"0"}
	for count := 1; count <= maxDigits; count++ {
		least, greatest := "1"+strings.Repeat("0", count-1), strings.Repeat("9", count)
		for _, digits := range []string{least, greatest, "123456789012345678"[:count], "987654321098765432"[:count]} {
			whole = append(whole, digits, "-"+digits)
		}
	}
	for _, text := range whole {
		want, err := strconv.ParseInt(text, 10, 64)
		if got := number(text); err != nil || got != want || !isWholeNumber(text) {
			t.Errorf("number(%q) = %d, want %d (%v)", text, got, want, err)
		}
	}
}

func TestFirst(t *testing.T) {
	d, err := Read(`{"statement":[
		{"effect":"allow","who":"bob","do":"*","on":"*"},
		{"effect":"deny","who":"*","do":"*","on":"*","if":[{"op":"below","key":"age","value":"7"}]},
		{"effect":"allow","who":"*","do":{"not":"write"},"on":"box/*","if":[{"op":"below","key":"age","value":"8"},{"op":"absent","key":"key"}]},
		{"effect":"allow","who":"*","do":"*","on":"*"},
		{"effect":"deny","who":"a*","do":"r*","on":"b*"}]}`)
	if err != nil {
		t.Fatal(err)
	}
	for _, c := range []struct {
		effect string
		r      api.Request
		number int
	}{
		{Allow, ann, 3}, {Deny, ann, 5}, {Allow, api.Request{Who: "bob"}, 1}, {Deny, api.Request{Who: "bob"}, 0}, {Allow, api.Request{}, 4},
		{Deny, api.Request{Marks: []api.Mark{{Name: "age", Value: "6"}}}, 2},
	} {
		if number, found := d.First(c.effect, c.r); number != c.number || found != (c.number > 0) {
			t.Errorf("First(%q, %q) = %d, %v, want %d", c.effect, c.r, number, found, c.number)
		}
	}
	if number, found := (Document{}).First(Allow, ann); number != 0 || found {
		t.Errorf("of no statements: %d, %v", number, found)
	}
}
