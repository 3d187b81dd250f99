package warrant

import (
	"fmt"
	"slices"
	"strings"
	"testing"

	"warrant/api"
)

var silence = api.Decision{Verdict: api.Silent}

func allowedBy(layer int, document string, statement int) api.Decision {
	return api.Decision{Verdict: api.Allow, Layer: layer, Document: document, Statement: statement}
}

func deniedBy(layer int, document string, statement int) api.Decision {
	return api.Decision{Verdict: api.Deny, Layer: layer, Document: document, Statement: statement}
}

// rule is a statement of three patterns and perhaps conditions.
func rule(effect, who, do, on string, conditions ...string) string {
	return `{"effect":"` + effect + `","who":"` + who + `","do":"` + do + `","on":"` + on + `","if":` + listOf(conditions...) + "}"
}

// These apply to every request, or to none (who is never absent).
var (
	allowsAll   = rule("allow", "*", "*", "*")
	deniesAll   = rule("deny", "*", "*", "*")
	allowsNone  = rule("allow", "*", "*", "*", `{"op":"absent","key":"who"}`)
	deniesNone  = rule("deny", "*", "*", "*", `{"op":"absent","key":"who"}`)
	everyEffect = []string{allowsAll, deniesAll, allowsNone, deniesNone}
)

// lying is a document with the place where it lies.
type lying struct {
	layer int
	name  string
	text  string
}

// officeOf has these documents.
func officeOf(t *testing.T, all ...lying) *Office {
	t.Helper()
	o := New()
	putAll(t, o, all...)
	return o
}

func putAll(t *testing.T, o *Office, all ...lying) {
	t.Helper()
	for _, l := range all {
		wantPut(t, o, l.layer, l.name, l.text, api.OK, 0)
	}
}

// asks is a request with marks out of names and values.
func asks(who, do, on string, pairs ...string) api.Request {
	return api.Request{Who: who, Do: do, On: on, Marks: marked(pairs...)}
}

func wantDecision(t *testing.T, o *Office, r api.Request, want api.Decision) {
	t.Helper()
	if d, errno := o.Decide(r); d != want || errno != api.OK {
		t.Errorf("Decide(%.200q) = %v, %d, want %v, by\n%s", r, d, errno, want, kept(t, o))
	}
}

// someOffices are of every verdict.
func someOffices(t *testing.T) []*Office {
	return []*Office{
		New(), officeOf(t, lying{api.Person, "a", documentOf(allowsAll)}), officeOf(t, lying{api.Thing, "a", documentOf(deniesAll)}), officeOf(t, lying{api.Guard, "a", documentOf(allowsNone)}), fullOffice(t),
	}
}

func TestP11RequestsThatMayNotBe(t *testing.T) {
	huge := strings.Repeat("a", 3_000_000)
	wrong := append(wrongRequests(),
		api.Request{Who: huge}, api.Request{Do: huge}, api.Request{On: huge}, api.Request{Marks: marked(huge, "")}, api.Request{Marks: marked("a", huge)},
		api.Request{Marks: slices.Repeat(marked("m", ""), 100_000)}, api.Request{Who: "\xff", Marks: marked("who", "")})
	for _, o := range someOffices(t) {
		keeps(t, o, func() {
			for _, r := range wrong {
				if d, errno := o.Decide(r); d != (api.Decision{}) || errno != api.ErrRequest {
					t.Errorf("Decide(%.120q) = %v, %d", r, d, errno)
				}
			}
		})
	}
}

func TestP11RequestsAtTheLimits(t *testing.T) {
	most, half := strings.Repeat("a", api.MaxWord), strings.Repeat("é", api.MaxWord/2)
	full := []string{}
	for i := range api.MaxMarks {
		full = append(full, strings.Repeat("m", api.MaxName-i), most)
	}
	o := officeOf(t, lying{api.Person, "a", documentOf(allowsAll)})
	for _, r := range []api.Request{
		{}, {Who: most, Do: most, On: most}, {Who: half, Do: half, On: half}, {Marks: []api.Mark{}}, asks(half, most, half, full...), asks("", "", "", times(2*api.MaxMarks, "m")...),
		asks("\x00\n", "\ufffd", "𝄞", "whom", "", "d", "$", "o", "\x7f", "onn", "${who}"),
	} {
		wantDecision(t, o, r, allowedBy(api.Person, "a", 1))
		wantDecision(t, New(), r, silence)
	}
	long := officeOf(t, lying{api.Thing, "a", documentOf(rule("allow", "${who}", "${mmm}", strings.Repeat("?", api.MaxPattern-1)+"*"))})
	wantDecision(t, long, asks(most, most, most, full...), allowedBy(api.Thing, "a", 1))
	wantDecision(t, long, asks(most, most[1:], most, full...), silence)
}

func TestP11NoDocument(t *testing.T) {
	for _, r := range []api.Request{{}, asks("ann", "read", "box/1"), asks("*", "*", "*", "m", "*")} {
		wantDecision(t, New(), r, silence)
	}
}

func TestP11DenyAheadOfAllElse(t *testing.T) {
	r := asks("ann", "read", "box")
	for layer := range api.Layers {
		denial := lying{layer, "d", documentOf(rule("deny", "ann", "read", "box"))}
		wantDecision(t, officeOf(t, denial), r, deniedBy(layer, "d", 1))
		wantDecision(t, officeOf(t, denial), asks("bob", "read", "box"), silence)
		for _, other := range []string{allowsAll, allowsNone, deniesNone} {
			o := officeOf(t, denial)
			for at := range api.Layers {
				putAll(t, o, lying{at, "a", documentOf(other)}, lying{at, "z", documentOf(other, other)})
			}
			wantDecision(t, o, r, deniedBy(layer, "d", 1))
		}
		mixed := officeOf(t, lying{layer, "a", documentOf(allowsAll, rule("deny", "ann", "*", "*"), allowsAll)})
		wantDecision(t, mixed, r, deniedBy(layer, "a", 2))
	}
}

// Every layer denies, in several documents, in several statements: the first is told, and when it is gone the next.
func TestP11FirstDenial(t *testing.T) {
	o := New()
	names := []string{"a", "ab", "b", "z"}
	for _, layer := range []int{api.Thing, api.Guard, api.Person, api.Bound} {
		for _, name := range []string{"z", "ab", "a", "b"} {
			wantPut(t, o, layer, name, documentOf(allowsAll, deniesNone, rule("deny", "ann", "*", "*"), deniesAll), api.OK, 0)
		}
	}
	for layer := range api.Layers {
		for _, name := range names {
			wantDecision(t, o, asks("ann", "", ""), deniedBy(layer, name, 3))
			wantDecision(t, o, asks("bob", "", ""), deniedBy(layer, name, 4))
			wantDrop(t, o, layer, name, api.OK)
		}
	}
	wantDecision(t, o, asks("ann", "", ""), silence)
}

func TestP11StatementsByTheirOrder(t *testing.T) {
	for _, effect := range []string{"allow", "deny"} {
		for number := 1; number <= api.MaxStatements; number++ {
			statements := times(api.MaxStatements, rule(effect, "*", "*", "*"))
			for i := range number - 1 {
				statements[i] = rule(effect, "x", "*", "*")
			}
			o := officeOf(t, lying{api.Person, "a", documentOf(statements...)})
			want := allowedBy(api.Person, "a", number)
			if effect == "deny" {
				want = deniedBy(api.Person, "a", number)
			}
			wantDecision(t, o, asks("ann", "", ""), want)
			wantDecision(t, o, asks("x", "", ""), api.Decision{Verdict: want.Verdict, Layer: api.Person, Document: "a", Statement: 1})
		}
	}
}

// Each of the layers Guard and Bound, once it has a document, must allow what another layer allows; it allows nothing by itself.
func TestP11GuardAndBound(t *testing.T) {
	r := asks("ann", "read", "box")
	allows, allowsOther, deniesOther := documentOf(rule("allow", "ann", "read", "box")), documentOf(rule("allow", "ann", "list", "box")), documentOf(rule("deny", "ann", "list", "box"))
	limits := []struct {
		texts  []string
		passes bool
	}{
		{nil, true}, {[]string{allows}, true}, {[]string{allowsOther}, false}, {[]string{deniesOther}, false}, {[]string{allowsOther, deniesOther}, false},
		{[]string{allowsOther, allows}, true}, {[]string{deniesOther, allows}, true}, {[]string{allows, allowsOther}, true}, {[]string{allowsOther, deniesOther, allowsOther, allows}, true},
		{[]string{documentOf(deniesNone, allowsNone, allowsAll)}, true}, {[]string{documentOf(deniesNone, allowsNone)}, false},
	}
	for _, guard := range limits {
		for _, bound := range limits {
			o := New()
			for i, text := range guard.texts {
				wantPut(t, o, api.Guard, string(rune('a'+i)), text, api.OK, 0)
			}
			for i, text := range bound.texts {
				wantPut(t, o, api.Bound, string(rune('a'+i)), text, api.OK, 0)
			}
			wantDecision(t, o, r, silence)
			for _, layer := range []int{api.Thing, api.Person} {
				wantPut(t, o, layer, "p", documentOf(allowsNone, allowsAll), api.OK, 0)
				want := silence
				if guard.passes && bound.passes {
					want = allowedBy(layer, "p", 2)
				}
				wantDecision(t, o, r, want)
			}
		}
	}
}

func TestP11LimitsThatAreDropped(t *testing.T) {
	for _, layer := range []int{api.Guard, api.Bound} {
		o := officeOf(t, lying{api.Thing, "a", documentOf(allowsAll)}, lying{layer, "g", documentOf(deniesNone)}, lying{layer, "h", documentOf(allowsNone)})
		wantDecision(t, o, api.Request{}, silence)
		wantDrop(t, o, layer, "g", api.OK)
		wantDecision(t, o, api.Request{}, silence)
		wantDrop(t, o, layer, "h", api.OK)
		wantDecision(t, o, api.Request{}, allowedBy(api.Thing, "a", 1))
	}
}

// Person ahead of Thing, in each by the names, in each by its order; statements that do not apply count, but are not told.
func TestP11FirstAllowance(t *testing.T) {
	o := New()
	names := []string{"a", "aa", "b", "ba"}
	for _, layer := range []int{api.Thing, api.Person, api.Bound, api.Guard} {
		for _, name := range []string{"ba", "b", "aa", "a"} {
			wantPut(t, o, layer, name, documentOf(deniesNone, allowsNone, rule("allow", "ann", "*", "*"), allowsAll), api.OK, 0)
		}
	}
	for _, layer := range []int{api.Person, api.Thing} {
		for _, name := range names {
			wantDecision(t, o, asks("ann", "", ""), allowedBy(layer, name, 3))
			wantDecision(t, o, asks("bob", "", ""), allowedBy(layer, name, 4))
			wantDrop(t, o, layer, name, api.OK)
		}
	}
	wantDecision(t, o, asks("ann", "", ""), silence)
}

func TestP11PersonThatDoesNotAllowLeavesItToThing(t *testing.T) {
	o := officeOf(t, lying{api.Person, "a", documentOf(allowsNone, deniesNone)}, lying{api.Thing, "a", documentOf(allowsAll)})
	wantDecision(t, o, api.Request{}, allowedBy(api.Thing, "a", 1))
	o = officeOf(t, lying{api.Person, "z", documentOf(allowsAll)}, lying{api.Thing, "a", documentOf(allowsNone)})
	wantDecision(t, o, api.Request{}, allowedBy(api.Person, "z", 1))
	o = officeOf(t, lying{api.Person, "a", documentOf(allowsNone)}, lying{api.Thing, "a", documentOf(deniesNone)})
	wantDecision(t, o, api.Request{}, silence)
}

func TestP11Examples(t *testing.T) {
	o := officeOf(t, lying{api.Person, "a", `{"statement":[{"effect":"allow","who":"ann","do":["read","list"],"on":"box/*"}]}`})
	wantDecision(t, o, asks("ann", "read", "box/1"), api.Decision{Verdict: api.Allow, Layer: 2, Document: "a", Statement: 1})
	wantDecision(t, o, asks("bob", "read", "box/1"), silence)
	putAll(t, o, lying{api.Thing, "d", `{"statement":[{"effect":"deny","who":"*","do":"*","on":"box/1"}]}`})
	wantDecision(t, o, asks("ann", "read", "box/1"), api.Decision{Verdict: api.Deny, Layer: 3, Document: "d", Statement: 1})
	putAll(t, o, lying{api.Guard, "g", documentOf(rule("allow", "*", "list", "*"))})
	wantDecision(t, o, asks("ann", "read", "box/2"), silence)
	wantDecision(t, o, asks("ann", "list", "box/2"), allowedBy(api.Person, "a", 1))
}

// wantTakes asks whether a statement, of either effect, applies.
func wantTakes(t *testing.T, member, value string, r api.Request, applies bool) {
	t.Helper()
	members := map[string]string{"who": `"*"`, "do": `"*"`, "on": `"*"`, "if": "[]"}
	members[member] = value
	for effect, told := range map[string]api.Decision{"allow": allowedBy(api.Thing, "a", 1), "deny": deniedBy(api.Thing, "a", 1)} {
		text := fmt.Sprintf(`{"effect":%q,"who":%s,"do":%s,"on":%s,"if":%s}`, effect, members["who"], members["do"], members["on"], members["if"])
		if !applies {
			told = silence
		}
		wantDecision(t, officeOf(t, lying{api.Thing, "a", documentOf(text)}), r, told)
	}
}

func TestP11Choices(t *testing.T) {
	for _, c := range []struct {
		patterns   string
		taken, not []string
	}{
		{`"ann"`, []string{"ann"}, []string{"", "bob", "Ann", "anna", "an"}},
		{`["ann"]`, []string{"ann"}, []string{"", "bob"}},
		{`["ann","b*"]`, []string{"ann", "b", "bob"}, []string{"", "cid", "anna"}},
		{`["a?","?b","c"]`, []string{"aa", "ab", "éb", "c"}, []string{"", "a", "cc", "ba"}},
		{`"*"`, []string{"", "a", "*"}, nil},
		{`""`, []string{""}, []string{"a", " "}},
		{`"$*"`, []string{"*"}, []string{"", "a"}},
		{`["${tag}","x"]`, []string{"t*", "x"}, []string{"", "tt", "${tag}"}},
		{`["${none}","x"]`, []string{"x"}, []string{"", "${none}"}},
		{`"${none}"`, nil, []string{"", "x", "${none}"}},
		{`"*${none}"`, nil, []string{"", "x"}},
		{`"\u0061\n\"\\"`, []string{"a\n\"\\"}, []string{"", "a"}},
	} {
		for _, member := range []string{"who", "do", "on"} {
			for _, word := range append(c.taken, c.not...) {
				r := asks("-", "-", "-", "tag", "t*", "tag", "u")
				*map[string]*string{"who": &r.Who, "do": &r.Do, "on": &r.On}[member] = word
				taken := slices.Contains(c.taken, word)
				wantTakes(t, member, c.patterns, r, taken)
				wantTakes(t, member, `{"not":`+c.patterns+"}", r, !taken)
			}
		}
	}
}

func TestP11AllChoicesMustTake(t *testing.T) {
	o := officeOf(t, lying{api.Person, "a", `{"statement":[{"effect":"allow","who":"w","do":{"not":["e","f"]},"on":["o","p"]}]}`})
	for _, r := range []api.Request{asks("w", "d", "o"), asks("w", "", "p")} {
		wantDecision(t, o, r, allowedBy(api.Person, "a", 1))
	}
	for _, r := range []api.Request{{}, asks("x", "d", "o"), asks("w", "e", "o"), asks("w", "f", "p"), asks("w", "d", "q"), asks("d", "w", "o"), asks("o", "d", "w")} {
		wantDecision(t, o, r, silence)
	}
}

// What the request says of itself stands in patterns as it is, in every choice.
func TestP11Variables(t *testing.T) {
	o := officeOf(t, lying{api.Person, "a", documentOf(rule("allow", "${on}", "${who}-*", "*", `{"op":"like","key":"m","value":"${do}/?"}`))})
	wantDecision(t, o, asks("a", "a-b", "a", "m", "a-b/c"), allowedBy(api.Person, "a", 1))
	wantDecision(t, o, asks("*", "*-b", "*", "m", "*-b/é"), allowedBy(api.Person, "a", 1))
	wantDecision(t, o, asks("a", "a-b", "*", "m", "a-b/c"), silence)
	wantDecision(t, o, asks("*", "a-b", "*", "m", "a-b/c"), silence)
	wantDecision(t, o, asks("a", "a-*", "a", "m", "a-b/c"), silence)
	wantDecision(t, o, asks("a", "a-b", "a"), silence)
}

// A variable that says nothing matches nothing, beside whatever else stands in its pattern; what is not that is everything.
func TestP11VariablesThatSayNothing(t *testing.T) {
	for _, pattern := range []string{"${tag}", "*${tag}*", "${who}${tag}", "${tag}${who}"} {
		for _, word := range []string{"", "a", "tag", "${tag}"} {
			r := asks(word, word, word, "tags", word, "ta", "")
			for _, member := range []string{"who", "do", "on"} {
				wantTakes(t, member, `"`+pattern+`"`, r, false)
				wantTakes(t, member, `["`+pattern+`","`+pattern+`"]`, r, false)
				wantTakes(t, member, `{"not":"`+pattern+`"}`, r, true)
				wantTakes(t, member, `{"not":["`+pattern+`","*"]}`, r, false)
				wantTakes(t, member, `["`+pattern+`","*"]`, r, true)
			}
			wantTakes(t, "if", `[{"op":"like","key":"who","value":"`+pattern+`"}]`, r, false)
			wantTakes(t, "if", `[{"op":"like","key":"who","value":["`+pattern+`","*"]}]`, r, true)
			wantTakes(t, "if", `[{"op":"like","key":"who","value":"`+pattern+`","no":true}]`, r, true)
		}
	}
}

// missing stands for a request in which the key says nothing.
const missing = "(missing)"

// wantCondition asks a condition, plain and with "no", of what its key k says; the first mark of that name counts.
func wantCondition(t *testing.T, condition, said string, holds bool) {
	t.Helper()
	r := asks("ann", "read", "box/1", "j", "x", "k", said, "k", "other", "kk", "x")
	if said == missing {
		r = asks("ann", "read", "box/1", "j", "x", "kk", "x")
	}
	for no, want := range map[string]bool{"": holds, `,"no":false`: holds, `,"no":true`: !holds} {
		wantTakes(t, "if", "[{"+condition+`,"key":"k"`+no+"}]", r, want)
	}
}

func TestP11Conditions(t *testing.T) {
	sixty := strings.Repeat("s", api.MaxPattern)
	for _, c := range []struct {
		condition  string
		holds, not []string
	}{
		{`"op":"like","value":"a*"`, []string{"a", "abc", "a*", "aé"}, []string{missing, "", "ba", "A"}},
		{`"op":"like","value":["a*"]`, []string{"a", "abc"}, []string{missing, "", "ba"}},
		{`"op":"like","value":["a*","?","$?$?"]`, []string{"a", "ab", "é", "*", "??"}, []string{missing, "", "bc", "??a"}},
		{`"op":"like","value":"*"`, []string{"", "a", "\n"}, []string{missing}},
		{`"op":"like","value":""`, []string{""}, []string{missing, "a"}},
		{`"op":"like","value":"${k}"`, []string{"", "a", "*", "${k}"}, []string{missing}},
		{`"op":"like","value":"${who}/${j}"`, []string{"ann/x"}, []string{missing, "", "ann/", "bob/x", "${who}/${j}"}},
		{`"op":"like","value":["${none}","b"]`, []string{"b"}, []string{missing, "", "a"}},

		{`"op":"same","value":"a"`, []string{"a"}, []string{missing, "", "A", "aa", "b", "other", "x"}},
		{`"op":"same","value":["a","b"]`, []string{"a", "b"}, []string{missing, "", "ab", "c"}},
		{`"op":"same","value":""`, []string{""}, []string{missing, "a", " "}},
		{`"op":"same","value":["a*","$","${who}","?"]`, []string{"a*", "$", "${who}", "?"}, []string{missing, "", "a", "ab", "ann", "*"}},
		{`"op":"same","value":"\u00e9"`, []string{"é"}, []string{missing, "e", "e\u0301", "\\u00e9"}},
		{`"op":"same","value":"07"`, []string{"07"}, []string{missing, "7"}},
		{`"op":"same","value":"` + sixty + `"`, []string{sixty}, []string{missing, sixty + "s", sixty[1:]}},

		{`"op":"below","value":"0"`, []string{"-1", "-10", "-999999999999999999"}, []string{missing, "", "0", "1", "-0", "00"}},
		{`"op":"below","value":"10"`, []string{"9", "0", "-1", "-11", "-9"}, []string{missing, "", "10", "11", "9.0", "09", "+9", "９", " 9", "9 ", "x", "1e0", "-", "--9", "0x1", "1_0"}},
		{`"op":"below","value":"-10"`, []string{"-11", "-100", "-999999999999999999"}, []string{missing, "", "-10", "-9", "-1", "0", "9", "-011"}},
		{`"op":"below","value":["18","-5"]`, []string{"17", "7", "0", "-5", "-6"}, []string{missing, "18", "19", "07"}},
		{`"op":"below","value":["-5","18"]`, []string{"17", "7", "0", "-5", "-6"}, []string{missing, "18", "19", "07"}},
		{`"op":"below","value":"999999999999999999"`, []string{"999999999999999998", "99999999999999999", "0", "-999999999999999999"}, []string{missing, "999999999999999999", "1000000000000000000", "-1000000000000000000", "-9999999999999999999", "18446744073709551615", strings.Repeat("1", api.MaxWord)}},
		{`"op":"below","value":"-999999999999999999"`, nil, []string{missing, "-999999999999999999", "-1000000000000000000", "-9223372036854775809", "0", "1"}},
		{`"op":"below","value":"9007199254740993"`, []string{"9007199254740992"}, []string{missing, "9007199254740993", "9007199254740994"}},

		{`"op":"under","value":"box"`, []string{"box", "box/", "box/1", "box/1/2", "box//"}, []string{missing, "", "boxes", "bo", "Box", "/box", "a/box", "box\\1"}},
		{`"op":"under","value":["box","a/b"]`, []string{"box", "box/1", "a/b", "a/b/c"}, []string{missing, "a", "a/", "a/bc", "a/box"}},
		{`"op":"under","value":"box/"`, []string{"box/", "box//", "box//1"}, []string{missing, "box", "box/1"}},
		{`"op":"under","value":"/"`, []string{"/", "//", "//a"}, []string{missing, "", "/a"}},
		{`"op":"under","value":["*","${who}"]`, []string{"*", "*/a", "${who}", "${who}/a"}, []string{missing, "", "a", "a/a", "ann", "ann/a"}},
		{`"op":"under","value":"é"`, []string{"é", "é/é"}, []string{missing, "éé", "e/"}},
		{`"op":"under","value":"` + sixty + `"`, []string{sixty, sixty + "/", sixty + "/" + sixty[:39]}, []string{missing, sixty + "s", sixty[1:]}},

		{`"op":"absent"`, []string{missing}, []string{"", "a", "0", "absent"}},
	} {
		for _, said := range c.holds {
			wantCondition(t, c.condition, said, true)
		}
		for _, said := range c.not {
			wantCondition(t, c.condition, said, false)
		}
	}
}

// rising is whole numbers of 1 and of 18 digits, the least and the greatest among them, from the least on.
var rising = []string{
	"-999999999999999999", "-999999999999999998", "-987654321098765432", "-900000000000000000", "-123456789012345679", "-123456789012345678", "-100000000000000001", "-100000000000000000",
	"-9", "-8", "-7", "-6", "-5", "-4", "-3", "-2", "-1", "0", "1", "2", "3", "4", "5", "6", "7", "8", "9",
	"100000000000000000", "100000000000000001", "123456789012345678", "123456789012345679", "900000000000000000", "987654321098765432", "999999999999999998", "999999999999999999",
}

func TestP11BelowBesideOneAnother(t *testing.T) {
	for a, first := range rising {
		for b, second := range rising {
			wantCondition(t, `"op":"below","value":"`+second+`"`, first, a < b)
			wantCondition(t, `"op":"below","value":["`+first+`","`+second+`"]`, first, a < b)
			wantCondition(t, `"op":"below","value":["`+first+`","`+second+`"]`, second, b < a)
			wantCondition(t, `"op":"below","value":["`+first+`","`+second+`"]`, "0", slices.Max([]int{a, b}) > slices.Index(rising, "0"))
		}
	}
}

// who, do and on are keys that always say something.
func TestP11ConditionsOnWhoDoAndOn(t *testing.T) {
	for _, key := range []string{"who", "do", "on"} {
		for _, c := range []struct {
			condition  string
			holds, not []string
		}{
			{`"op":"same","value":"a"`, []string{"a"}, []string{"", "b"}},
			{`"op":"like","value":"a*"`, []string{"a", "ab"}, []string{"", "b"}},
			{`"op":"like","value":"*"`, []string{"", "a"}, nil},
			{`"op":"below","value":"5"`, []string{"4"}, []string{"", "5", "x"}},
			{`"op":"under","value":"box"`, []string{"box", "box/1"}, []string{"", "boxes"}},
			{`"op":"absent"`, nil, []string{"", "a"}},
		} {
			for _, word := range append(c.holds, c.not...) {
				r := asks("-", "-", "-")
				*map[string]*string{"who": &r.Who, "do": &r.Do, "on": &r.On}[key] = word
				holds := slices.Contains(c.holds, word)
				wantTakes(t, "if", "[{"+c.condition+`,"key":"`+key+`"}]`, r, holds)
				wantTakes(t, "if", "[{"+c.condition+`,"key":"`+key+`","no":true}]`, r, !holds)
			}
		}
	}
}

func TestP11AllConditionsMustHold(t *testing.T) {
	holds, not := `{"op":"absent","key":"k"}`, `{"op":"absent","key":"k","no":true}`
	wantTakes(t, "if", "[]", asks("a", "b", "c"), true)
	for count := 1; count <= api.MaxConditions; count++ {
		wantTakes(t, "if", listOf(times(count, holds)...), asks("a", "b", "c"), true)
		for at := range count {
			conditions := times(count, holds)
			conditions[at] = not
			wantTakes(t, "if", listOf(conditions...), asks("a", "b", "c"), false)
		}
	}
	// A statement without the member applies like one with an empty list.
	o := officeOf(t, lying{api.Person, "a", documentOf(plainest)})
	wantDecision(t, o, asks("a", "b", "c"), allowedBy(api.Person, "a", 1))
}

func TestP12PutDropAndPutBack(t *testing.T) {
	r := asks("ann", "read", "box")
	allows, denies := documentOf(allowsAll), documentOf(allowsNone, deniesAll)
	for layer := range api.Layers {
		byAllowing := silence
		if layer == api.Person || layer == api.Thing {
			byAllowing = allowedBy(layer, "a", 1)
		}
		o := New()
		for range 3 {
			wantDecision(t, o, r, silence)
			putAll(t, o, lying{layer, "a", allows})
			wantDecision(t, o, r, byAllowing)
			putAll(t, o, lying{layer, "a", denies})
			wantDecision(t, o, r, deniedBy(layer, "a", 2))
			putAll(t, o, lying{layer, "a", allows})
			wantDecision(t, o, r, byAllowing)
			putAll(t, o, lying{layer, "b", denies})
			wantDecision(t, o, r, deniedBy(layer, "b", 2))
			wantDrop(t, o, layer, "b", api.OK)
			wantDecision(t, o, r, byAllowing)
			wantDrop(t, o, layer, "a", api.OK)
		}
		wantDecision(t, o, r, silence)
	}
}

// What was refused decides nothing.
func TestP12WhatIsRefused(t *testing.T) {
	r := asks("ann", "read", "box")
	o := officeOf(t, lying{api.Person, "a", documentOf(allowsAll)}, lying{api.Person, "b", documentOf(allowsAll)}, lying{api.Person, "c", documentOf(allowsAll)}, lying{api.Person, "d", documentOf(allowsAll)})
	wantPut(t, o, api.Person, "e", documentOf(deniesAll), api.ErrFull, 0)
	wantPut(t, o, api.Layers, "a", documentOf(deniesAll), api.ErrLayer, 0)
	wantPut(t, o, api.Guard, "A", documentOf(deniesAll), api.ErrName, 0)
	wantPut(t, o, api.Guard, "a", documentOf(deniesAll, "true"), api.ErrShape, 2)
	wantPut(t, o, api.Person, "a", documentOf(deniesAll, statementWith("on", `"$"`)), api.ErrPattern, 2)
	wantDrop(t, o, api.Person, "e", api.ErrNone)
	wantDecision(t, o, r, allowedBy(api.Person, "a", 1))
}

// A document without an allow can't make more be allowed, wherever it comes to lie.
func TestP12WithoutAllow(t *testing.T) {
	r := asks("ann", "read", "box")
	without := []string{documentOf(deniesNone), documentOf(deniesAll), documentOf(rule("deny", "bob", "*", "*"), deniesNone), documentOf(`{"effect":"deny","who":{"not":"ann"},"do":"*","on":"*"}`)}
	for _, person := range everyEffect {
		for _, guard := range append([]string{""}, everyEffect...) {
			o := officeOf(t, lying{api.Person, "m", documentOf(person)})
			if guard != "" {
				putAll(t, o, lying{api.Guard, "m", documentOf(guard)})
			}
			before, _ := o.Decide(r)
			for layer := range api.Layers {
				for _, text := range without {
					for _, name := range []string{"a", "z"} {
						putAll(t, o, lying{layer, name, text})
						after, _ := o.Decide(r)
						if before.Verdict != api.Allow && after.Verdict == api.Allow || before.Verdict == api.Deny && after.Verdict != api.Deny {
							t.Errorf("%s in layer %d turns %v into %v", text, layer, before, after)
						}
						wantDrop(t, o, layer, name, api.OK)
						wantDecision(t, o, r, before)
					}
				}
			}
		}
	}
}

// Beside documents that allow, one that denies nothing takes the allowance away in the layers Guard and Bound alone.
func TestP12WithoutAllowByLayer(t *testing.T) {
	r := asks("ann", "read", "box")
	for layer := range api.Layers {
		o := officeOf(t, lying{api.Person, "m", documentOf(allowsAll)}, lying{layer, "a", documentOf(deniesNone)})
		want := allowedBy(api.Person, "m", 1)
		if layer == api.Guard || layer == api.Bound {
			want = silence
		}
		wantDecision(t, o, r, want)
	}
}

// P2: a request is read, and neither its marks nor the room behind them are written into.
func TestP11LeavesMarksAlone(t *testing.T) {
	room := marked("b", "2", "a", "1", "b", "3", "z", "spare", "y", "spare")
	before := slices.Clone(room)
	o := officeOf(t, lying{api.Thing, "a", documentOf(rule("allow", "*", "*", "${a}${b}", `{"op":"absent","key":"z"}`))})
	wantDecision(t, o, api.Request{On: "12", Marks: room[:3]}, allowedBy(api.Thing, "a", 1))
	wantDecision(t, o, api.Request{On: "13", Marks: room[:3]}, silence)
	wantDecision(t, o, api.Request{On: "12", Marks: room[:4]}, silence)
	if _, errno := o.Decide(api.Request{Who: "\xff", Marks: room[:3]}); errno != api.ErrRequest || !slices.Equal(room, before) {
		t.Errorf("%d, and the marks became %v", errno, room)
	}
}

// P2: of a request nothing is kept, and what is decided is the caller's.
func TestP11KeepsNothingHandedIn(t *testing.T) {
	o := New()
	name, spoilName := borrowed("name")
	text, spoilText := borrowed(documentOf(rule("allow", "${m}", "*", "*", `{"op":"same","key":"m","value":"ann"}`)))
	putAll(t, o, lying{api.Person, name, text})
	spoilName()
	spoilText()
	who, spoilWho := borrowed("ann")
	value, spoilValue := borrowed("ann")
	d, _ := o.Decide(asks(who, "", "", "m", value))
	keeps(t, o, func() {
		spoilWho()
		spoilValue()
		d.Document, d.Statement = "x", 7
	})
	wantDecision(t, o, asks("ann", "", "", "m", "ann"), allowedBy(api.Person, "name", 1))
	wantDecision(t, o, asks("###", "", "", "m", "###"), silence)
}

// P2: what one office keeps decides nothing in another, and what was asked before does not count.
func TestP11OfThisOfficeAlone(t *testing.T) {
	r := asks("ann", "read", "box", "m", "1")
	a, b := officeOf(t, lying{api.Person, "a", documentOf(allowsAll)}), officeOf(t, lying{api.Person, "a", documentOf(deniesAll)})
	for range 2 {
		wantDecision(t, a, r, allowedBy(api.Person, "a", 1))
		wantDecision(t, b, r, deniedBy(api.Person, "a", 1))
		wantDecision(t, New(), r, silence)
		keeps(t, a, func() { wantDecision(t, a, asks("", "", ""), allowedBy(api.Person, "a", 1)) })
	}
	told, _ := a.Decide(r)
	wantDrop(t, a, api.Person, "a", api.OK)
	if told != allowedBy(api.Person, "a", 1) {
		t.Errorf("told was %v", told)
	}
}

// The most that can be asked ends at once.
func TestP11FullOffice(t *testing.T) {
	heavy := `"` + strings.Repeat("*${m}", 11) + `*b"`
	statement := func(effect string) string {
		return `{"effect":"` + effect + `","who":{"not":["b"]},"do":"*","on":` + listOf(times(4, heavy)...) + "}"
	}
	o := New()
	for layer := range api.Layers {
		for _, name := range []string{"a", "b", "c", "d"} {
			putAll(t, o, lying{layer, name, documentOf(append(times(4, statement("allow")), times(5, statement("deny"))...)...)})
		}
	}
	word := strings.Repeat("a", api.MaxWord)
	marks := append(times(2*(api.MaxMarks-1), "x"), "m", "a")
	wantDecision(t, o, asks(word, word, word, marks...), silence)
	wantDecision(t, o, asks(word, word, word[1:]+"b", marks...), deniedBy(api.Guard, "a", 5))
}
