package documents

import (
	"errors"
	"reflect"
	"testing"

	"warrant/patterns"
	"warrant/texts"
)

func TestRead(t *testing.T) {
	text := `{"statement":[{"effect":"deny","who":"a","do":["b","c"],"on":{"not":"d"},"if":[{"op":"same","key":"e","value":"f","no":true}]}]}`
	want := Document{[]Statement{{
		Effect: "deny",
		Who:    Choice{Patterns: []string{"a"}},
		Do:     Choice{Patterns: []string{"b", "c"}},
		On:     Choice{Not: true, Patterns: []string{"d"}},
		If:     []Condition{{Op: "same", Key: "e", Values: []string{"f"}, No: true}},
	}}}
	d, err := Read(text)
	if err != nil || !reflect.DeepEqual(d, want) {
		t.Errorf("Read = %#v, %v", d, err)
	}
}

func TestFaultsAreWrapped(t *testing.T) {
	good := `{"effect":"allow","who":"a","do":"a","on":"a"}`
	bad := `{"effect":"allow","who":"a","do":["a","b$","$"],"on":"a"}`
	_, err := Read(`{"statement":[` + good + "," + bad + "," + bad + "]}")
	var statement StatementFault
	var pattern patterns.Fault
	if !errors.As(err, &statement) || statement.Number != 2 || !errors.As(err, &pattern) || pattern.Place != 1 {
		t.Errorf("a wrong pattern in statement 2: %v", err)
	}
	if err == nil || err.Error() != "statement 2: no pattern at byte 1" {
		t.Errorf("the fault says: %v", err)
	}
	var shape ShapeFault
	_, err = Read(`{"statement":[` + good + ",true]}")
	if !errors.As(err, &statement) || statement.Number != 2 || !errors.As(err, &shape) {
		t.Errorf("no statement in place 2: %v", err)
	}
	_, err = Read(`{"statement":[]}`)
	if errors.As(err, &statement) || !errors.As(err, &shape) {
		t.Errorf("no statements: %v", err)
	}
	var syntax texts.SyntaxFault
	if _, err = Read(`{"statement":[`); !errors.As(err, &syntax) || syntax.Place != 14 {
		t.Errorf("no right text: %v", err)
	}
}

func TestGravest(t *testing.T) {
	pattern, shape := error(patterns.Fault{Place: 3}), error(ShapeFault{"op"})
	for _, c := range []struct {
		faults []error
		want   error
	}{
		{nil, nil},
		{[]error{nil, nil}, nil},
		{[]error{nil, pattern, nil}, pattern},
		{[]error{pattern, shape}, shape},
		{[]error{shape, pattern}, shape},
		{[]error{patterns.Fault{Place: 1}, pattern}, patterns.Fault{Place: 1}},
		{[]error{pattern, shape, ShapeFault{"no"}}, shape},
	} {
		if got := gravest(c.faults...); got != c.want {
			t.Errorf("gravest(%v) = %v, want %v", c.faults, got, c.want)
		}
	}
}

func TestWholeNumbers(t *testing.T) {
	for _, s := range []string{"0", "7", "10", "-1", "-10", "123456789012345678", "-999999999999999999"} {
		if !isWholeNumber(s) {
			t.Errorf("isWholeNumber(%q) = false", s)
		}
	}
	for _, s := range []string{"", "-", "-0", "00", "07", "-07", "+7", "--7", "7-", "1.0", "1e3", " 7", "7 ", "x", "٣", "1/2", "1:", "1234567890123456789", "-1234567890123456789"} {
		if isWholeNumber(s) {
			t.Errorf("isWholeNumber(%q) = true", s)
		}
	}
}
