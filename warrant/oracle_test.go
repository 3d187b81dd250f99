package warrant

import (
	"encoding/json"
	"math/big"
	"math/rand"
	"regexp"
	"slices"
	"strings"
	"testing"

	"warrant/api"
)

// What stands here tells P11 once more, by other means: patterns by regular expressions, numbers by big ones, documents in maps.

type choiceOf struct {
	not      bool
	patterns []string
}

func (c choiceOf) MarshalJSON() ([]byte, error) {
	if c.not {
		return json.Marshal(map[string][]string{"not": c.patterns})
	}
	return json.Marshal(c.patterns)
}

type conditionOf struct {
	Op     string   `json:"op"`
	Key    string   `json:"key"`
	Values []string `json:"value,omitempty"`
	No     bool     `json:"no"`
}

type statementOf struct {
	Effect string        `json:"effect"`
	Who    choiceOf      `json:"who"`
	Do     choiceOf      `json:"do"`
	On     choiceOf      `json:"on"`
	If     []conditionOf `json:"if"`
}

type oracle [api.Layers]map[string][]statementOf

func sayingOf(r api.Request) map[string]string {
	out := map[string]string{}
	for _, m := range slices.Backward(r.Marks) {
		out[m.Name] = m.Value
	}
	out["who"], out["do"], out["on"] = r.Who, r.Do, r.On
	return out
}

var partOf = regexp.MustCompile(`\$\{[a-z]+\}|\$.|.`)

func matched(pattern, word string, says map[string]string) bool {
	possible := true
	text := partOf.ReplaceAllStringFunc(pattern, func(part string) string {
		switch {
		case part == "*":
			return ".*"
		case part == "?":
			return "."
		case strings.HasPrefix(part, "${"):
			said, found := says[strings.Trim(part, "${}")]
			possible = possible && found
			return regexp.QuoteMeta(said)
		case part[0] == '$':
			return regexp.QuoteMeta(part[1:])
		}
		return regexp.QuoteMeta(part)
	})
	return possible && regexp.MustCompile(`(?s)\A(?:`+text+`)\z`).MatchString(word)
}

func (c choiceOf) takes(word string, says map[string]string) bool {
	for _, p := range c.patterns {
		if matched(p, word, says) {
			return !c.not
		}
	}
	return c.not
}

var wholeNumber = regexp.MustCompile(`\A(?:0|-?[1-9][0-9]{0,17})\z`)

func (c conditionOf) holds(says map[string]string) bool {
	x, there := says[c.Key]
	fits := func(value string) bool {
		switch c.Op {
		case "like":
			return matched(value, x, says)
		case "same":
			return x == value
		case "below":
			a, _ := new(big.Int).SetString(x, 10)
			b, _ := new(big.Int).SetString(value, 10)
			return wholeNumber.MatchString(x) && a.Cmp(b) < 0
		}
		return x == value || strings.HasPrefix(x, value) && strings.HasPrefix(x[len(value):], "/")
	}
	if c.Op == "absent" {
		return there == c.No
	}
	return (there && slices.ContainsFunc(c.Values, fits)) != c.No
}

func (s statementOf) applies(r api.Request) bool {
	says := sayingOf(r)
	for _, c := range s.If {
		if !c.holds(says) {
			return false
		}
	}
	return s.Who.takes(r.Who, says) && s.Do.takes(r.Do, says) && s.On.takes(r.On, says)
}

// applying tells all statements that apply, as decisions, in the order in which they are told.
func (o oracle) applying(r api.Request, effect string, verdict int, layers ...int) []api.Decision {
	out := []api.Decision{}
	for _, layer := range layers {
		for _, name := range []string{"a", "b", "c", "d", "e"} {
			for i, s := range o[layer][name] {
				if s.Effect == effect && s.applies(r) {
					out = append(out, api.Decision{Verdict: verdict, Layer: layer, Document: name, Statement: i + 1})
				}
			}
		}
	}
	return out
}

func (o oracle) decide(r api.Request) api.Decision {
	if denials := o.applying(r, "deny", api.Deny, 0, 1, 2, 3); len(denials) > 0 {
		return denials[0]
	}
	for layer := range 2 {
		if len(o[layer]) > 0 && len(o.applying(r, "allow", api.Allow, layer)) == 0 {
			return silence
		}
	}
	return append(o.applying(r, "allow", api.Allow, 2, 3), silence)[0]
}

// source makes documents and requests, the same ones each time.
type source struct{ *rand.Rand }

func pick[T any](s source, from ...T) T { return from[s.Intn(len(from))] }

func several[T any](s source, most int, one func() T) []T {
	out := make([]T, 1+s.Intn(most))
	for i := range out {
		out[i] = one()
	}
	return out
}

func (s source) word() string {
	return pick(s, "", "a", "b", "ab", "a/b", "a/b/c", "*", "é", "5", "-12", "07")
}

func (s source) key() string { return pick(s, "who", "do", "on", "m", "n") }

func (s source) pattern() string {
	return pick(s, "*", "*", "*", "a*", "?", "a", "b", "*b", "?*", "$*", "${who}", "${m}*", "${n}", "a/${do}", "é")
}

func (s source) choice() choiceOf {
	return choiceOf{not: s.Intn(4) == 0, patterns: several(s, 3, s.pattern)}
}

func (s source) condition() conditionOf {
	c := conditionOf{Op: pick(s, "like", "same", "below", "under", "absent"), Key: s.key(), No: s.Intn(2) == 0}
	switch c.Op {
	case "like":
		c.Values = several(s, 3, s.pattern)
	case "same":
		c.Values = several(s, 3, s.word)
	case "below":
		c.Values = several(s, 3, func() string { return pick(s, "0", "5", "6", "-12", "-11", "-13", "100") })
	case "under":
		c.Values = several(s, 3, func() string { return pick(s, "a", "a/b", "a/", "b", "*", "é") })
	}
	return c
}

func (s source) statement() statementOf {
	out := statementOf{Effect: pick(s, "allow", "allow", "deny"), Who: s.choice(), Do: s.choice(), On: s.choice(), If: []conditionOf{}}
	if out.Effect == "deny" || s.Intn(3) == 0 {
		out.If = several(s, api.MaxConditions, s.condition)
	}
	return out
}

func (s source) request() api.Request {
	r := api.Request{Who: s.word(), Do: s.word(), On: s.word()}
	for range s.Intn(4) {
		r.Marks = append(r.Marks, api.Mark{Name: pick(s, "m", "n"), Value: s.word()})
	}
	return r
}

// step changes an office and its oracle in the same way.
func (s source) step(t *testing.T, o *Office, by oracle) {
	layer, name := s.Intn(api.Layers), pick(s, "a", "b", "c", "d", "e")
	_, has := by[layer][name]
	if s.Intn(5) < 3 {
		if has {
			wantDrop(t, o, layer, name, api.OK)
			delete(by[layer], name)
		}
		return
	}
	if !has && len(by[layer]) == api.MaxDocuments {
		return
	}
	statements := several(s, 3, s.statement)
	text, err := json.Marshal(map[string][]statementOf{"statement": statements})
	if err != nil {
		t.Fatal(err)
	}
	wantPut(t, o, layer, name, string(text), api.OK, 0)
	by[layer][name] = statements
}

// An office through many changes decides as the oracle does, and so does one that has only ever been given what is kept.
func TestP11P12AsTheOracle(t *testing.T) {
	s := source{rand.New(rand.NewSource(1))}
	o, by := New(), oracle{{}, {}, {}, {}}
	told := map[int]int{}
	for range 3000 {
		s.step(t, o, by)
		fresh := New()
		for layer := range api.Layers {
			names, _ := o.Names(layer)
			for _, name := range slices.Backward(names) {
				text, _ := o.Show(layer, name)
				wantPut(t, fresh, layer, name, text, api.OK, 0)
			}
		}
		for range 10 {
			r := s.request()
			want := by.decide(r)
			wantDecision(t, o, r, want)
			wantDecision(t, fresh, r, want)
			told[want.Verdict*10+want.Layer]++
		}
		if t.Failed() {
			return
		}
	}
	for _, kind := range []int{api.Deny * 10, api.Deny*10 + 1, api.Deny*10 + 2, api.Deny*10 + 3, api.Allow*10 + 2, api.Allow*10 + 3, api.Silent * 10} {
		if told[kind] < 100 {
			t.Errorf("too few decisions of a kind: %v", told)
		}
	}
}
