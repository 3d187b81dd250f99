package texts

import (
	"encoding/json"
	"errors"
	"reflect"
	"strings"
	"testing"
	"unicode/utf8"

	"warrant/api"
)

func TestReadValues(t *testing.T) {
	for _, c := range []struct {
		text string
		want Value
	}{
		{"true", Word(true)},
		{"\r\n false\t", Word(false)},
		{`""`, String("")},
		{`"\"\\\/\n\t"`, String("\"\\/\n\t")},
		{`"\u0041\u00e9\u20AC\u0000\uFFFF\ud7ff\uE000"`, String("Aé€\x00\uFFFF\uD7FF\uE000")},
		{"\"aé€𝄞\u007f\"", String("aé€𝄞\u007f")},
		{"[ ]", List(nil)},
		{"{ }", Object(nil)},
		{`[true , "a",[]]`, List{Word(true), String("a"), List(nil)}},
		{`{ "b" : true,"\u0061":{"b":[ ]}}`, Object{{"b", Word(true)}, {"a", Object{{"b", List(nil)}}}}},
	} {
		v, err := Read(c.text)
		if err != nil || !reflect.DeepEqual(v, c.want) {
			t.Errorf("Read(%q) = %#v, %v, want %#v", c.text, v, err, c.want)
		}
	}
}

func TestReadFaults(t *testing.T) {
	for _, c := range []struct {
		text string
		want error
	}{
		{"", SyntaxFault{0}},
		{"[true", SyntaxFault{5}},
		{strings.Repeat("[", api.MaxDepth+1), DeepFault{api.MaxDepth}},
		{`{"a":[],"a"`, TwiceFault{10}},
		{strings.Repeat(" ", api.MaxText+1), ErrLong},
	} {
		v, err := Read(c.text)
		if v != nil || !errors.Is(err, c.want) {
			t.Errorf("Read(%.20q) = %v, %v, want %v", c.text, v, err, c.want)
		}
		if err != nil && err.Error() == "" {
			t.Errorf("Read(%.20q): the fault says nothing", c.text)
		}
	}
}

func TestGet(t *testing.T) {
	o := Object{{"a", Word(true)}, {"b", List(nil)}}
	if o.Get("a") != Word(true) || o.Get("b") == nil || o.Get("c") != nil || Object(nil).Get("a") != nil {
		t.Error("Get misses a member, or finds one that is not there")
	}
}

// signs has no digit and no n, so that encoding/json finds neither numbers nor null, which it knows besides.
const signs = `{}[]:," \ute`

// begins tells by trial whether a text is the beginning of a right one.
func begins(text string) bool {
	middles := []string{
		"", `"`, `""`, `:""`, `":""`, `"":""`, `n"`, `n":""`,
		`0000"`, `000"`, `00"`, `0000":""`, `000":""`, `00":""`, "rue", "ue", "e",
	}
	for _, middle := range middles {
		for ends := 1; ends < 64; ends++ {
			closing := ""
			for n := ends; n > 1; n /= 2 {
				closing += string("]}"[n%2])
			}
			if json.Valid([]byte(text + middle + closing)) {
				return true
			}
		}
	}
	return false
}

// tryLonger holds the place of a fault against what begins says, for all texts that go on by some signs.
func tryLonger(t *testing.T, text string, more int) {
	for _, sign := range signs {
		longer := text + string(sign)
		_, err := Read(longer)
		want := len(text)
		if begins(longer) {
			want = len(longer)
			if more > 1 {
				tryLonger(t, longer, more-1)
			}
		}
		right := json.Valid([]byte(longer))
		if right && err != nil || !right && err != (SyntaxFault{want}) {
			t.Errorf("Read(%q) = %v, right %v, place %d", longer, err, right, want)
		}
	}
}

func TestSyntaxByTrial(t *testing.T) {
	for _, start := range []string{"", `{"e"`, `{"e":"e"`, `{"\`, `[{"e":`, `[true`, `"\u`, `[[],`} {
		tryLonger(t, start, 3)
	}
}

// TestSequences tries all beginnings of two bytes, and all third and fourth bytes behind the bounds, against unicode/utf8.
func TestSequences(t *testing.T) {
	tails := []string{"", "\x7f", "\x80", "\xbf", "\xc0", "\x80\x80", "\x80\x7f", "\xbf\xbf", "\xbf\xc0", "\x80\x80\x80"}
	for first := 0x80; first <= 0xff; first++ {
		for second := range 0x100 {
			for _, tail := range tails {
				if second == '"' || second == '\\' || second < ' ' {
					continue
				}
				s := string([]byte{byte(first), byte(second)}) + tail
				_, err := Read(`"` + s + `"`)
				if right := utf8.ValidString(s); (err == nil) != right {
					t.Fatalf("Read of %x = %v, right %v", s, err, right)
				}
				if err != nil {
					checkSequencePlace(t, s, err)
				}
			}
		}
	}
}

// checkSequencePlace asks that some bytes turn what stands ahead of the place into characters, and none what stands up to it.
func checkSequencePlace(t *testing.T, s string, err error) {
	t.Helper()
	var fault SyntaxFault
	if !errors.As(err, &fault) {
		t.Fatalf("Read of %x = %v", s, err)
	}
	whole := s + `"`
	at := fault.Place - 1
	if !completes(whole[:at]) || completes(whole[:at+1]) {
		t.Fatalf("Read of %x: place %d", s, fault.Place)
	}
}

func completes(s string) bool {
	if strings.HasSuffix(s, `"`) {
		return utf8.ValidString(s)
	}
	for _, tail := range []string{"", "\x80", "\x90", "\xa0", "\x80\x80", "\x90\x80", "\xa0\x80", "\x80\x80\x80", "\x90\x80\x80"} {
		if utf8.ValidString(s + tail) {
			return true
		}
	}
	return false
}

func TestQuote(t *testing.T) {
	for c := range rune(0x3000) {
		s := string(c)
		v, err := Read(Quote(s))
		if v != String(s) || err != nil {
			t.Fatalf("Read(Quote(%q)) = %v, %v", s, v, err)
		}
	}
	for s, want := range map[string]string{
		"": `""`, `"\/`: `"\"\\/"`, "\n\t\r\b": `"\n\t\u000d\u0008"`, "\x00\x1f\x10 \x7f": "\"\\u0000\\u001f\\u0010 \x7f\"", "é\u2028𝄞": "\"é\u2028𝄞\"",
	} {
		if got := Quote(s); got != want {
			t.Errorf("Quote(%q) = %s, want %s", s, got, want)
		}
	}
}
