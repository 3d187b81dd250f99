package warrant

import (
	"strings"
	"testing"

	"warrant/api"
)

func TestP4NoDocument(t *testing.T) {
	for _, text := range []string{
		"true", `"statement"`, "[]", "{}", "[" + documentOf(plainest) + "]", plainest,
		`{"statement":true}`, `{"statement":"a"}`, `{"statement":{}}`, `{"statement":` + plainest + "}", `{"statement":[]}`,
		`{"Statement":[` + plainest + `]}`, `{"statements":[` + plainest + `]}`, `{"":[` + plainest + `]}`,
		`{"statement":[` + plainest + `],"x":true}`, `{"x":true,"statement":[` + plainest + `]}`,
		documentOf(times(api.MaxStatements+1, plainest)...), documentOf(times(api.MaxStatements+1, "true")...),
		`{"statement":[true],"x":[]}`,
	} {
		wantCheck(t, text, api.ErrShape, 0)
	}
}

func TestP4NumberOfTheStatement(t *testing.T) {
	for n := range api.MaxStatements {
		list := times(api.MaxStatements, plainest)
		list[n] = "{}"
		wantCheck(t, documentOf(list...), api.ErrShape, n+1)
		list[n] = statementWith("do", `"$"`)
		wantCheck(t, documentOf(list...), api.ErrPattern, n+1)
	}
	wrong, pattern := "true", statementWith("on", `"$"`)
	wantCheck(t, documentOf(plainest, wrong, pattern), api.ErrShape, 2)
	wantCheck(t, documentOf(plainest, pattern, wrong), api.ErrPattern, 2)
	wantCheck(t, documentOf(pattern, pattern), api.ErrPattern, 1)
	wantCheck(t, documentOf(wrong, wrong), api.ErrShape, 1)
}

func TestP4NoStatement(t *testing.T) {
	for _, s := range []string{
		"true", `"allow"`, "[]", "{}", "[" + plainest + "]",
		statementWith("x", "true"), statementWith("", "true"), statementWith("Who", `"a"`), statementWith("not", `"a"`), statementWith("statement", "[]"),
		statementWith("effect", `"Allow"`), statementWith("effect", `""`), statementWith("effect", `"silent"`), statementWith("effect", "true"), statementWith("effect", `["allow"]`), statementWith("effect", `" allow"`),
		strings.Replace(plainest, `"effect":"allow",`, "", 1), strings.Replace(plainest, `"who":"a",`, "", 1), strings.Replace(plainest, `"do":"b",`, "", 1), strings.Replace(plainest, `,"on":"c"`, "", 1),
		statementWith("if", "true"), statementWith("if", "{}"), statementWith("if", `""`), statementWith("if", "[true]"), statementWith("if", `["a"]`), statementWith("if", "[[]]"), statementWith("if", "[{}]"), statementWith("if", `{"op":"absent","key":"a"}`),
	} {
		wantCheck(t, documentOf(s), api.ErrShape, 1)
		wantCheck(t, documentOf(plainest, s, plainest), api.ErrShape, 2)
	}
}

func TestP4Choices(t *testing.T) {
	most := times(api.MaxPatterns, `"a"`)
	for _, name := range []string{"who", "do", "on"} {
		for _, v := range []string{`""`, `"a"`, `["a"]`, `["a","a"]`, listOf(most...), `{"not":"a"}`, `{"not":["a","b"]}`, `{"not":` + listOf(most...) + "}"} {
			wantCheck(t, with(name, v), api.OK, 0)
		}
		for _, v := range []string{
			"true", "false", "[]", "[true]", "[[]]", `["a",true]`, `["a",["b"]]`, `[{"not":"a"}]`, listOf(append(most, `"a"`)...),
			"{}", `{"Not":"a"}`, `{"not":"a","x":"a"}`, `{"not":true}`, `{"not":[]}`, `{"not":[true]}`, `{"not":{"not":"a"}}`, `{"not":` + listOf(append(most, `"a"`)...) + "}",
		} {
			wantCheck(t, with(name, v), api.ErrShape, 1)
		}
	}
}

func TestP4Patterns(t *testing.T) {
	most := strings.Repeat("a", api.MaxPattern)
	for _, p := range []string{
		most, strings.Repeat("é", api.MaxPattern/2), strings.Repeat(`\u0061`, api.MaxPattern), strings.Repeat(`\n`, api.MaxPattern),
		"$$", "$*", "$?", "$$$$", "${a}", "${who}", "${abcdefghijkl}", "${a}${b}", "*?", "{}", "$$x", "$${A}", `\u0024$`, `\u0024{a}`, `\n\\\"\/`,
	} {
		wantCheck(t, with("who", `"`+p+`"`), api.OK, 0)
		wantCheck(t, with("on", `{"not":["a","`+p+`"]}`), api.OK, 0)
		wantCheck(t, ifs(asking("like", `"`+p+`"`)), api.OK, 0)
	}
	for _, p := range []string{
		most + "a", strings.Repeat("é", api.MaxPattern/2) + "a", strings.Repeat(`\u0061`, api.MaxPattern) + "a", strings.Repeat(`\u00e9`, api.MaxPattern/2) + `\n`,
		"$", "$x", "a$", "$$$", "${", "${}", "${a", "${A}", "${a1}", "${ a}", "${abcdefghijklm}", "${a}$", `\u0024`, `$\\*`, `$\u0000`,
	} {
		for _, name := range []string{"who", "do", "on"} {
			wantCheck(t, with(name, `"`+p+`"`), api.ErrPattern, 1)
			wantCheck(t, with(name, `["a","`+p+`"]`), api.ErrPattern, 1)
			wantCheck(t, with(name, `{"not":"`+p+`"}`), api.ErrPattern, 1)
			wantCheck(t, with(name, `{"not":["`+p+`","a"]}`), api.ErrPattern, 1)
		}
		wantCheck(t, ifs(asking("like", `"`+p+`"`)), api.ErrPattern, 1)
		wantCheck(t, ifs(`{"op":"absent","key":"a"}`, asking("like", `["a","`+p+`"]`)), api.ErrPattern, 1)
	}
}

// A wrong pattern beside anything else that is wrong with the statement, ahead of it or behind it, is not told.
func TestP4ShapeAheadOfPattern(t *testing.T) {
	eleven := append(times(api.MaxPatterns, `"a"`), `"$"`)
	six := times(api.MaxConditions+1, asking("like", `"$"`))
	for _, s := range []string{
		statementWith("who", `"$","x":true`), statementWith("x", `true,"if":[`+asking("like", `"$"`)+"]"),
		statementWith("who", `["$",true]`), statementWith("who", `[true,"$"]`), statementWith("who", `{"not":"$","x":true}`), statementWith("who", `{"x":"$"}`), statementWith("who", listOf(eleven...)),
		`{"effect":"x","who":"$","do":"a","on":"a"}`, `{"who":"$","do":"a","on":"a"}`, `{"effect":"allow","who":"$","do":"a"}`, `{"effect":"allow","who":"$","do":"a","on":[]}`, `{"effect":"allow","who":[],"do":"a","on":"$"}`, `{"effect":"allow","who":"$","do":true,"on":"$"}`,
		statementWith("who", `"$","if":true`), statementWith("on", `"$","if":[`+asking("below", `"x"`)+"]"), statementWith("who", `"$","if":[true]`),
		statementWith("if", listOf(six...)),
		statementWith("if", "["+asking("like", `"$"`)+",true]"), statementWith("if", "[true,"+asking("like", `"$"`)+"]"),
		statementWith("if", `[{"op":"like","key":"K","value":"$"}]`), statementWith("if", `[{"op":"like","value":"$"}]`), statementWith("if", `[{"key":"a","value":"$"}]`), statementWith("if", `[{"op":"liked","key":"a","value":"$"}]`), statementWith("if", `[{"op":"like","key":"a","value":"$","no":"true"}]`), statementWith("if", `[{"op":"like","key":"a","value":"$","x":true}]`),
		statementWith("if", "["+asking("like", `["$",true]`)+"]"), statementWith("if", "["+asking("like", listOf(eleven...))+"]"), statementWith("if", "["+asking("like", `"$"`)+","+asking("under", `""`)+"]"),
	} {
		wantCheck(t, documentOf(s), api.ErrShape, 1)
	}
	wantCheck(t, documentOf(statementWith("who", `"$","if":[`+asking("like", `"$"`)+"]")), api.ErrPattern, 1)
	wantCheck(t, documentOf(`{"effect":"deny","who":["$","a"],"do":{"not":"$"},"on":"$x"}`), api.ErrPattern, 1)
}

func TestP4Conditions(t *testing.T) {
	most := times(api.MaxConditions, `{"op":"absent","key":"a"}`)
	wantCheck(t, ifs(), api.OK, 0)
	wantCheck(t, ifs(most...), api.OK, 0)
	wantCheck(t, ifs(append(most, most[0])...), api.ErrShape, 1)
	name := strings.Repeat("n", api.MaxName)
	for _, c := range []string{
		`{"op":"absent","key":"who"}`, `{"op":"absent","key":"` + name + `"}`, `{"key":"a","op":"absent"}`, `{"op":"absent","key":"a","no":true}`, `{"no":false,"op":"absent","key":"a"}`,
		`{"no":true,"value":["a"],"key":"on","op":"same"}`, `{"op":"\u0061bsent","key":"a"}`,
	} {
		wantCheck(t, ifs(c), api.OK, 0)
	}
	for _, c := range []string{
		"true", "[]", `"absent"`, "{}", `{"op":"absent"}`, `{"key":"a"}`, `{"op":true,"key":"a"}`, `{"op":["absent"],"key":"a"}`, `{"op":"","key":"a"}`, `{"op":"Absent","key":"a"}`, `{"op":"equal","key":"a","value":"a"}`,
		`{"op":"absent","key":true}`, `{"op":"absent","key":["a"]}`, `{"op":"absent","key":""}`, `{"op":"absent","key":"A"}`, `{"op":"absent","key":"a1"}`, `{"op":"absent","key":"é"}`, `{"op":"absent","key":"${a}"}`, `{"op":"absent","key":"` + name + `n"}`,
		`{"op":"absent","key":"a","no":"true"}`, `{"op":"absent","key":"a","no":[]}`, `{"op":"absent","key":"a","no":[true]}`, `{"op":"absent","key":"a","x":true}`, `{"op":"absent","key":"a","No":true}`, `{"op":"same","key":"a","values":"a"}`, `{"op":"same","key":"a","value":"a","x":"a"}`,
		`{"op":"absent","key":"a","value":"a"}`, `{"op":"absent","key":"a","value":[]}`, `{"op":"absent","key":"a","value":["a"]}`, `{"op":"absent","key":"a","value":true}`,
	} {
		wantCheck(t, ifs(c), api.ErrShape, 1)
		wantCheck(t, ifs(most[0], c), api.ErrShape, 1)
	}
}

func TestP4ValuesOfEveryOperation(t *testing.T) {
	for _, op := range []string{"like", "same", "below", "under"} {
		most := times(api.MaxPatterns, `"7"`)
		for _, v := range []string{`"7"`, `["7"]`, `["7","-8"]`, listOf(most...)} {
			wantCheck(t, ifs(asking(op, v)), api.OK, 0)
		}
		for _, v := range []string{"true", "{}", "[]", "[true]", `[["7"]]`, `["7",true]`, `{"not":"7"}`, listOf(append(most, `"7"`)...)} {
			wantCheck(t, ifs(asking(op, v)), api.ErrShape, 1)
		}
		wantCheck(t, ifs(`{"op":"`+op+`","key":"a"}`), api.ErrShape, 1)
		wantCheck(t, ifs(`{"op":"`+op+`","key":"a","no":true}`), api.ErrShape, 1)
	}
}

func TestP4ValuesByOperation(t *testing.T) {
	most := strings.Repeat("a", api.MaxPattern)
	half := strings.Repeat("é", api.MaxPattern/2)
	for _, c := range []struct {
		op           string
		right, wrong []string
		errno        api.Errno
	}{
		{"like", []string{"", "*", "${k}", "$$", most, half}, []string{"$", "${K}", most + "a", half + "a"}, api.ErrPattern},
		{"same", []string{"", "$", "${", "*", `\n`, most, half, strings.Repeat(`\u0061`, api.MaxPattern)}, []string{most + "a", half + "a"}, api.ErrShape},
		{"under", []string{"a", "/", "a/", "$", "${", " ", most, half}, []string{"", most + "a", half + "a"}, api.ErrShape},
		{
			"below",
			[]string{"0", "1", "-1", "18", "100", "999999999999999999", "-999999999999999999", `\u0037`},
			[]string{"", "-", "-0", "00", "07", "-07", "+7", "--7", "7x", "x7", " 7", "7 ", "1.5", "1e2", "٧", "1000000000000000000", "-1000000000000000000", "$", most},
			api.ErrShape,
		},
	} {
		for _, v := range c.right {
			wantCheck(t, ifs(asking(c.op, `"`+v+`"`)), api.OK, 0)
			wantCheck(t, ifs(asking(c.op, `["1","`+v+`"]`)), api.OK, 0)
		}
		for _, v := range c.wrong {
			wantCheck(t, ifs(asking(c.op, `"`+v+`"`)), c.errno, 1)
			wantCheck(t, ifs(asking(c.op, `["1","`+v+`"]`)), c.errno, 1)
			wantCheck(t, ifs(asking(c.op, `["`+v+`","1"]`)), c.errno, 1)
		}
	}
}

func TestP5Documents(t *testing.T) {
	for _, text := range []string{
		documentOf(plainest), documentOf(times(api.MaxStatements, plainest)...),
		`{"statement":[{"effect":"allow","who":"ann","do":["read","list"],"on":"box/*"}]}`,
		" {\t\"statement\"\n:\r[ { \"on\" : \"c\" , \"if\" : [ ] , \"do\" : [ \"b\" ] , \"who\" : { \"not\" : \"a\" } , \"effect\" : \"deny\" } ] } ",
		`{"\u0073tatement":[{"\u0065ffect":"\u0064eny","wh\u006f":"","d\u006F":"*","\u006f\u006E":{"n\u006ft":"\u0024\u0024"}}]}`,
		with("effect", `"deny"`), with("who", `"${tag}/$*"`), with("if", "[]"),
		ifs(asking("like", `"*"`), asking("same", `["",""]`), asking("below", `"-5"`), asking("under", `"box"`), `{"op":"absent","key":"k","no":true}`),
	} {
		wantCheck(t, text, api.OK, 0)
	}
}
