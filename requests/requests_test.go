package requests

import (
	"strings"
	"testing"

	"warrant/api"
)

func TestWords(t *testing.T) {
	most := strings.Repeat("a", api.MaxWord)
	for _, s := range []string{"", "a", "A1 \n\x00", "é€𝄞", "\ufffd", "$", most, strings.Repeat("é", api.MaxWord/2)} {
		if !IsWord(s) {
			t.Errorf("IsWord(%q) = false", s)
		}
	}
	for _, s := range []string{
		most + "a", strings.Repeat("é", api.MaxWord/2) + "a",
		"\x80", "\xc3", "a\xff", "\xc3(", "\xc0\x80", "\xe0\x80\x80", "\xed\xa0\x80", "\xf0\x80\x80\x80", "\xf4\x90\x80\x80", "\xf0\x9d\x84",
	} {
		if IsWord(s) {
			t.Errorf("IsWord(%q) = true", s)
		}
	}
}

func TestRequestsThatMayBe(t *testing.T) {
	most := strings.Repeat("a", api.MaxWord)
	marks := make([]api.Mark, api.MaxMarks)
	for i := range marks {
		marks[i] = api.Mark{Name: "m"}
	}
	for _, r := range []api.Request{
		{}, {Who: most, Do: most, On: most}, {Marks: []api.Mark{}}, {Marks: marks},
		{Marks: []api.Mark{{Name: "whom", Value: most}, {Name: "d", Value: ""}, {Name: strings.Repeat("o", api.MaxName), Value: "é"}}},
	} {
		if !MayBe(r) {
			t.Errorf("MayBe(%q) = false", r)
		}
	}
}

func TestRequestsThatMayNotBe(t *testing.T) {
	for _, wrong := range []string{strings.Repeat("a", api.MaxWord+1), "\xff"} {
		for _, r := range []api.Request{
			{Who: wrong}, {Do: wrong}, {On: wrong},
			{Marks: []api.Mark{{Name: "a", Value: wrong}}}, {Marks: []api.Mark{{Name: "a"}, {Name: "a", Value: wrong}}},
		} {
			if MayBe(r) {
				t.Errorf("MayBe(%q) = true", r)
			}
		}
	}
	for _, name := range []string{"who", "do", "on", "", "A", "a1", "a b", "é", "\xff", strings.Repeat("a", api.MaxName+1)} {
		if MayBe(api.Request{Marks: []api.Mark{{Name: "a"}, {Name: name, Value: "x"}}}) {
			t.Errorf("a mark of the name %q may be", name)
		}
	}
	many := make([]api.Mark, api.MaxMarks+1)
	for i := range many {
		many[i] = api.Mark{Name: "m"}
	}
	if MayBe(api.Request{Marks: many}) {
		t.Errorf("%d marks may be", len(many))
	}
}

func TestSays(t *testing.T) {
	r := api.Request{Who: "w", Do: "d", On: "o", Marks: []api.Mark{{Name: "b", Value: "1"}, {Name: "a", Value: ""}, {Name: "b", Value: "2"}, {Name: "a", Value: "3"}}}
	for _, c := range []struct {
		name, want string
		found      bool
	}{
		{"who", "w", true}, {"do", "d", true}, {"on", "o", true}, {"a", "", true}, {"b", "1", true}, {"c", "", false}, {"ab", "", false}, {"", "", false}, {"wh", "", false},
	} {
		if got, found := Says(r, c.name); got != c.want || found != c.found {
			t.Errorf("Says(%q) = %q, %v", c.name, got, found)
		}
	}
	for _, name := range []string{"who", "do", "on"} {
		if got, found := Says(api.Request{}, name); got != "" || !found {
			t.Errorf("Says(%q) of the empty request = %q, %v", name, got, found)
		}
	}
}

func TestSaying(t *testing.T) {
	a := Saying(api.Request{Who: "ann", Marks: []api.Mark{{Name: "m", Value: "1"}, {Name: "m", Value: "2"}}})
	b := Saying(api.Request{Who: "bob"})
	for _, c := range []struct {
		says       func(string) (string, bool)
		name, want string
		found      bool
	}{{a, "who", "ann", true}, {a, "on", "", true}, {a, "m", "1", true}, {a, "n", "", false}, {b, "who", "bob", true}, {b, "m", "", false}} {
		if got, found := c.says(c.name); got != c.want || found != c.found {
			t.Errorf("%q says %q, %v, want %q, %v", c.name, got, found, c.want, c.found)
		}
	}
}
