package warrant

import (
	"strings"
	"testing"

	"warrant/api"
)

func TestP6Errors(t *testing.T) {
	for _, c := range []struct {
		text  string
		errno api.Errno
	}{
		{strings.Repeat(" ", api.MaxText+1), api.ErrLong}, {"", api.ErrSyntax}, {"[true,]", api.ErrSyntax}, {"[[[[[[[[[", api.ErrDeep}, {`{"a":true,"a":true}`, api.ErrTwice},
		{"true", api.ErrShape}, {documentOf(plainest, "{}"), api.ErrShape}, {documentOf(plainest, statementWith("who", `"$"`)), api.ErrPattern},
	} {
		if s, e := Print(c.text); s != "" || e != c.errno {
			t.Errorf("Print(%.40q) = %q, %d, want %d", c.text, s, e, c.errno)
		}
	}
}

func TestP6Statements(t *testing.T) {
	const plain = `{"statement":[{"effect":"allow","who":["a"],"do":["b"],"on":["c"]}]}`
	for _, text := range []string{
		documentOf(plainest), plain, with("who", `["a"]`), with("if", "[]"), with("if", "[ ]"), with("effect", `"\u0061llow"`),
		" { \"statement\"\t: [\r\n{ \"on\" : [ \"c\" ] , \"do\" : \"b\" , \"effect\" : \"allow\" , \"who\" : \"a\" , \"if\" : [ ] } ] } \n",
		`{"statement":[{"if":[],"on":"c","do":["b"],"who":"\u0061","effect":"allow"}]}`,
	} {
		wantPrint(t, text, plain)
	}
	wantPrint(t, documentOf(plainest, statementWith("effect", `"deny"`)),
		`{"statement":[{"effect":"allow","who":["a"],"do":["b"],"on":["c"]},{"effect":"deny","who":["a"],"do":["b"],"on":["c"]}]}`)
	wantPrint(t, `{"statement":[{"on":{"not":["z","y","z"]},"do":{ "not" : "b"},"who":["b","a","b"],"effect":"deny"}]}`,
		`{"statement":[{"effect":"deny","who":["b","a","b"],"do":{"not":["b"]},"on":{"not":["z","y","z"]}}]}`)
	wantPrint(t, with("on", `["",""]`), `{"statement":[{"effect":"allow","who":["a"],"do":["b"],"on":["",""]}]}`)
}

func TestP6Conditions(t *testing.T) {
	for _, c := range []struct{ condition, want string }{
		{`{"op":"absent","key":"a"}`, `{"op":"absent","key":"a"}`},
		{`{"key":"a","op":"absent","no":false}`, `{"op":"absent","key":"a"}`},
		{`{"no":true,"key":"a","op":"absent"}`, `{"op":"absent","key":"a","no":true}`},
		{`{"no":false,"value":"$*","key":"a","op":"like"}`, `{"op":"like","key":"a","value":["$*"]}`},
		{`{ "value" : [ "b" , "a" , "b" ] , "no" : true , "op" : "same" , "key" : "who" }`, `{"op":"same","key":"who","value":["b","a","b"],"no":true}`},
		{`{"op":"below","key":"a","value":["7","-5","0"]}`, `{"op":"below","key":"a","value":["7","-5","0"]}`},
		{`{"op":"same","key":"a","value":""}`, `{"op":"same","key":"a","value":[""]}`},
		{`{"op":"under","key":"on","value":"a\/b"}`, `{"op":"under","key":"on","value":["a/b"]}`},
	} {
		wantPrint(t, ifs(c.condition), `{"statement":[{"effect":"allow","who":["a"],"do":["b"],"on":["c"],"if":[`+c.want+"]}]}")
		wantPrint(t, ifs(c.condition, `{"op":"absent","key":"z"}`), `{"statement":[{"effect":"allow","who":["a"],"do":["b"],"on":["c"],"if":[`+c.want+`,{"op":"absent","key":"z"}]}]}`)
	}
}

func TestP6Escapes(t *testing.T) {
	for _, c := range []struct{ written, want string }{
		{`\"\u0022`, `\"\"`}, {`\\\u005c\u005C`, `\\\\\\`}, {`/\/\u002f`, `///`}, {`\n\u000a\u000A`, `\n\n\n`}, {`\t\u0009`, `\t\t`},
		{`\u0000\u0001\u0008\u000b\u000C\u000d\u000E\u000f`, `\u0000\u0001\u0008\u000b\u000c\u000d\u000e\u000f`}, {`\u0010\u001a\u001B\u001f`, `\u0010\u001a\u001b\u001f`},
		{`\u0020\u0041`, " A"}, {"\x7f\\u007f", "\x7f\x7f"}, {`\u0080\u00e9é`, "\u0080éé"}, {`\u20ac\u2028\ufeff\ufffd\uffff`, "€\u2028\ufeff\ufffd\uffff"}, {`\ud7ff\ue000`, "\ud7ff\ue000"}, {"𝄞\U0010ffff", "𝄞\U0010ffff"}, {`\\u0041`, `\\u0041`}, {`<>&'`, `<>&'`},
	} {
		wantPrint(t, with("on", `"`+c.written+`"`), `{"statement":[{"effect":"allow","who":["a"],"do":["b"],"on":["`+c.want+`"]}]}`)
		wantPrint(t, ifs(asking("same", `"`+c.written+`"`)), `{"statement":[{"effect":"allow","who":["a"],"do":["b"],"on":["c"],"if":[{"op":"same","key":"k","value":["`+c.want+`"]}]}]}`)
	}
}

func TestP6MayBeLongerThanADocument(t *testing.T) {
	pattern := `"` + strings.Repeat("a", api.MaxPattern) + `"`
	who := listOf(append(times(5, pattern), `"`+strings.Repeat("b", 33)+`"`)...)
	text := documentOf(times(api.MaxStatements, statementWith("who", who))...)
	if len(text) > api.MaxText || len(text)+4*api.MaxStatements <= api.MaxText {
		t.Fatalf("a text of %d bytes tells nothing here", len(text))
	}
	plain, errno := Print(text)
	if errno != api.OK || len(plain) != len(text)+4*api.MaxStatements {
		t.Errorf("Print of %d bytes = %d bytes, %d", len(text), len(plain), errno)
	}
	wantCheck(t, plain, api.ErrLong, 0)
}
