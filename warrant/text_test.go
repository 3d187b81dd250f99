package warrant

import (
	"strings"
	"testing"

	"warrant/api"
)

func TestP3Long(t *testing.T) {
	right := documentOf(plainest)
	fill := strings.Repeat(" ", api.MaxText-len(right))
	wantCheck(t, fill+right, api.OK, 0)
	wantCheck(t, right+fill, api.OK, 0)
	wantCheck(t, right+fill+" ", api.ErrLong, 0)
	wantCheck(t, strings.Repeat(" ", api.MaxText), api.ErrSyntax, api.MaxText)
	wantCheck(t, strings.Repeat("x", api.MaxText), api.ErrSyntax, 0)
	wantCheck(t, strings.Repeat("x", api.MaxText+1), api.ErrLong, 0)
	wantCheck(t, strings.Repeat("[", 1000000), api.ErrLong, 0)
	long := `"` + strings.Repeat("é", (api.MaxText-2)/2) + `"`
	wantCheck(t, long, api.ErrShape, 0)
	wantCheck(t, long+" ", api.ErrLong, 0)
}

func TestP3SyntaxOfSignsAndWords(t *testing.T) {
	for _, c := range []struct {
		text  string
		place int
	}{
		{"x", 0}, {"null", 0}, {"0", 0}, {"-1", 0}, {"'a'", 0}, {"]", 0}, {"}", 0}, {",", 0}, {":", 0}, {"True", 0},
		{"\x00", 0}, {"\v", 0}, {"\f", 0}, {"\xa0", 0}, {"\u00a0", 0}, {"\ufefftrue", 0}, {"\\", 0}, {"/", 0},
		{"truth", 3}, {"tRue", 1}, {"fa lse", 2}, {"fals\x00", 4}, {"true x", 5}, {"truefalse", 4}, {"true,", 4}, {"true]", 4}, {`true"a"`, 4}, {`"a""b"`, 3}, {`"a" "b"`, 4}, {"[][]", 2}, {"{}{}", 2}, {"[]]", 2}, {"{}}", 2}, {"true\x00", 4}, {"true\v", 4},
		{"[}", 1}, {"[,", 1}, {"[:", 1}, {"[true,]", 6}, {"[true,,", 6}, {"[true false]", 6}, {"[true}", 5}, {"[true:", 5}, {"[tru]", 4}, {`["a"x`, 4}, {"[[]x", 3}, {"[1]", 1}, {"[ \t\r\n\v", 5},
		{"{]", 1}, {"{,", 1}, {"{:", 1}, {"{true", 1}, {"{{", 1}, {"{[", 1}, {"{a", 1}, {`{"a" 1}`, 5}, {`{"a",`, 4}, {`{"a"}`, 4}, {`{"a""`, 4}, {`{"a"=`, 4}, {`{"a"::`, 5}, {`{"a":}`, 5}, {`{"a":,`, 5}, {`{"a":1`, 5}, {`{"a":null`, 5}, {`{"a":true]`, 9}, {`{"a":true:`, 9}, {`{"a":true "b"`, 10}, {`{"a":true,}`, 10}, {`{"a":true,,`, 10}, {`{"a":true,true`, 10}, {`{"a":[]"`, 7},
	} {
		wantCheck(t, c.text, api.ErrSyntax, c.place)
	}
}

func TestP3SyntaxOfStrings(t *testing.T) {
	for _, c := range []struct {
		text  string
		place int
	}{
		{"\"\x00\"", 1}, {"\"\n\"", 1}, {"\"ab\t\"", 3}, {"\"\x1f\"", 1}, {"\"\r", 1},
		{`"\b"`, 2}, {`"\f"`, 2}, {`"\r"`, 2}, {`"\'"`, 2}, {`"\0"`, 2}, {`"\U0041"`, 2}, {`"\N"`, 2}, {`"\ "`, 2}, {"\"\\\n", 2}, {"\"\\\x00", 2}, {"\"\\é", 2}, {`"\\\x`, 4},
		{`"\u"`, 3}, {`"\u1"`, 4}, {`"\u12"`, 5}, {`"\u123"`, 6}, {`"\ug`, 3}, {`"\u/`, 3}, {`"\u:`, 3}, {`"\u@`, 3}, {`"\uG`, 3}, {"\"\\u`", 3}, {`"\u0g`, 4}, {`"\u00G`, 5}, {`"\u000 `, 6}, {`"\u+041"`, 3}, {"\"\\u\xc3", 3},
		{`"\ud8"`, 4}, {`"\uD8`, 4}, {`"\udf`, 4}, {`"\udF`, 4}, {`"\uda00"`, 4}, {`"\ud83d\ude00"`, 4}, {`"\uDfff"`, 4}, {`"\u0041\ud900"`, 10}, {`"\ud7g`, 5},
		{"\"\x80", 1}, {"\"\xbf\"", 1}, {"\"\xc0\x80\"", 1}, {"\"\xc1\xbf\"", 1}, {"\"\xf5\x80", 1}, {"\"\xff", 1},
		{"\"\xc3\x28", 2}, {"\"\xc3\"", 2}, {"\"\xc2\xc0", 2}, {"\"\xdf\x7f", 2}, {"\"é\xa9", 3},
		{"\"\xe0\x80", 2}, {"\"\xe0\x9f\xbf", 2}, {"\"\xe0\xa0\"", 3}, {"\"\xed\xa0\x80", 2}, {"\"\xed\xbf", 2}, {"\"\xed\x9f\xc0", 3}, {"\"\xe2\x82\x28", 3}, {"\"\xe2\x28", 2}, {"\"\xef\xc0", 2},
		{"\"\xf0\x80", 2}, {"\"\xf0\x8f\xbf", 2}, {"\"\xf0\x90\"", 3}, {"\"\xf0\x90\x80\"", 4}, {"\"\xf0\x90\x80\xc0", 4}, {"\"\xf4\x90", 2}, {"\"\xf4\x8f\xbf\x20", 4}, {"\"\xf1\x7f", 2}, {"\"\xf3\xbf\x00", 3},
		{"{\"\xc3\"", 3}, {`{"\x`, 3}, {"{\"a\n", 3},
	} {
		wantCheck(t, c.text, api.ErrSyntax, c.place)
	}
}

// At each of its bytes the text is only a beginning.
func TestP3SyntaxAtTheEnd(t *testing.T) {
	for _, whole := range []string{
		documentOf(plainest, statementWith("if", `[{"op":"absent","key":"a","no":false}]`)),
		" \t\r\n[ true , false , [ ] , { } ]",
		`{ "a" : { "b" : [ "c" , true ] } , "b" : "" }`,
		`"\"\\\/\n\t\u0aF9\ud7ff"`,
		"\"é\u0800\ud7ff\uffff\U00010000\U0010ffff\"",
		"true", "false",
	} {
		for i := range len(whole) {
			wantCheck(t, whole[:i], api.ErrSyntax, i)
		}
		if e, _ := Check(whole); e != api.ErrShape && e != api.OK {
			t.Errorf("Check(%q) = %d, but it is right", whole, e)
		}
	}
}

func TestP3RightTexts(t *testing.T) {
	for _, text := range []string{
		"true", "false", "\n\r\t true", "true \t\r\n", "{}", "[]", "{ }", "[ ]", "[[],{}]", "[true,true]", `""`, `"true"`, "\"\x7f\"", `"'"`, `"/"`,
		`"\"\\\/\n\t"`, `"\u0000\u001f\uFFFF\uabCD"`, `"\ud7ff\ue000\uD7FF\uE000"`, `"\\ud800"`, `"{[:,]}"`,
		"\"\xc2\x80\xdf\xbf\"", "\"\xe0\xa0\x80\xed\x9f\xbf\xee\x80\x80\xef\xbf\xbf\"", "\"\xf0\x90\x80\x80\xf4\x8f\xbf\xbf\"",
	} {
		wantCheck(t, text, api.ErrShape, 0)
	}
}

func TestP3Deep(t *testing.T) {
	eight := strings.Repeat("[", api.MaxDepth)
	ends := strings.Repeat("]", api.MaxDepth)
	objects := strings.Repeat(`{"a":`, api.MaxDepth)
	wantCheck(t, eight+ends, api.ErrShape, 0)
	wantCheck(t, objects+"true"+strings.Repeat("}", api.MaxDepth), api.ErrShape, 0)
	wantCheck(t, eight, api.ErrSyntax, 8)
	wantCheck(t, eight+"[", api.ErrDeep, 8)
	wantCheck(t, eight+"{", api.ErrDeep, 8)
	wantCheck(t, eight+" \n[", api.ErrDeep, 10)
	wantCheck(t, eight+`"[{"`+ends, api.ErrShape, 0)
	wantCheck(t, eight+"true,[", api.ErrDeep, 13)
	wantCheck(t, objects+"{", api.ErrDeep, 40)
	wantCheck(t, objects+"[", api.ErrDeep, 40)
	wantCheck(t, strings.Repeat(`[{"a":`, 4)+"[", api.ErrDeep, 24)
	wantCheck(t, "["+strings.Repeat("[[[[[[[]]]]]]],", 3)+"[]]", api.ErrShape, 0)
	wantCheck(t, "["+strings.Repeat("[[[[[[[]]]]]]],", 3)+eight, api.ErrDeep, 1+3*15+7)
	wantCheck(t, strings.Repeat("[", api.MaxText), api.ErrDeep, 8)
}

func TestP3Twice(t *testing.T) {
	for _, c := range []struct {
		text  string
		place int
	}{
		{`{"a":true,"a":true}`, 12}, {`{"a":true,"\u0061":true}`, 17}, {`{"\u0061":true,"a"`, 17}, {`{"a":[],"a"`, 10}, {`{"a":{},"a"`, 10}, {`{"a":"","a"`, 10}, {`{"a":false,"a"`, 13},
		{`{"":true,"":true}`, 10}, {`{"a":true,"b":true,"a":true}`, 21}, {`{"a":true,"b":true,"b"`, 21},
		{`{"é":true,"\u00e9"`, 18}, {`{"\u00E9":true,"\u00e9"`, 22}, {`{"/":true,"\/"`, 13}, {`{"\n":true,"\u000a"`, 18}, {`{"\t":true,"\u0009"`, 18}, {`{"\"":true,"\u0022"`, 18}, {`{"\\":true,"\u005C"`, 18},
		{"{\"\ufffd\":true,\"\\ufffd\"", 19}, {`{"\u0000":true,"\u0000"`, 22},
		{`{"a":{"b":true,"b"`, 17}, {`[true,{"a":true,"a"`, 18}, {`{"a":{"b":true},"a"`, 18}, {`{"b":{"a":true},"b"`, 18},
	} {
		wantCheck(t, c.text, api.ErrTwice, c.place)
	}
	for _, text := range []string{
		`{"a":true,"b":true}`, `{"a":true,"A":true}`, `{"a":true,"aa":true,"":true}`, `{"a":{"a":{"a":true}}}`, `[{"a":true},{"a":true}]`, `{"a":"a","b":"a"}`, `{"a":{"b":true},"b":{"b":true}}`, `{"\\u0061":true,"a":true}`,
		"{\"é\":true,\"e\u0301\":true}",
	} {
		wantCheck(t, text, api.ErrShape, 0)
	}
}

// The first that is met is told.
func TestP3First(t *testing.T) {
	nine := strings.Repeat("[", 9)
	for _, c := range []struct {
		text  string
		errno api.Errno
		place int
	}{
		{`{"a":true,"a"x`, api.ErrTwice, 12}, {`{"a":true,"a`, api.ErrSyntax, 12}, {`{"a":true,"a\x"`, api.ErrSyntax, 13}, {`{"a":x,"a":true}`, api.ErrSyntax, 5}, {`{"a":true,"a":` + nine, api.ErrTwice, 12},
		{nine + "x", api.ErrDeep, 8}, {"[x" + nine, api.ErrSyntax, 1}, {`{"a":` + nine + `,"a":true}`, api.ErrDeep, 12}, {`{"a":true x,"a"`, api.ErrSyntax, 10},
		{`{"a":{"b":true,"b":true},"a":true}`, api.ErrTwice, 17}, {"true" + nine, api.ErrSyntax, 4},
		{`{"statement":true,"statement":x`, api.ErrTwice, 28}, {`{"statement":[true]}x`, api.ErrSyntax, 20}, {documentOf(statementWith("who", `"$"`)) + "]", api.ErrSyntax, len(with("who", `"$"`))},
		{strings.Repeat(" ", api.MaxText-9) + nine, api.ErrDeep, api.MaxText - 1}, {strings.Repeat(" ", api.MaxText-8) + nine, api.ErrLong, 0},
	} {
		wantCheck(t, c.text, c.errno, c.place)
	}
}

// Whatever byte stands wherever in a document: no call panics, what stands ahead of the place is a beginning, and what stands behind it says nothing.
func TestP3EveryByteEverywhere(t *testing.T) {
	whole := " " + documentOf(statementWith("if", "[{\"op\":\"like\",\"key\":\"k\",\"value\":[\"\\u00e9é€𝄞\"],\"no\":true}]")) + "\n"
	for i := range len(whole) {
		for b := range 256 {
			text := whole[:i] + string([]byte{byte(b)}) + whole[i+1:]
			e, place := Check(text)
			if e != api.ErrSyntax && e != api.ErrTwice && e != api.ErrDeep {
				continue
			}
			if place < i {
				t.Fatalf("Check(%q) = %d, %d, but it is right up to %d", text, e, place, i)
			}
			if e, p := Check(text[:place]); e == api.ErrSyntax && p != place || e == api.ErrTwice || e == api.ErrDeep {
				t.Fatalf("Check(%q) = %d, %d, ahead of the place %d", text[:place], e, p, place)
			}
			if place == len(text) {
				continue
			}
			if f, p := Check(text[:place+1]); f != e || p != place {
				t.Fatalf("Check(%q) = %d, %d, want %d, %d", text[:place+1], f, p, e, place)
			}
		}
	}
}
