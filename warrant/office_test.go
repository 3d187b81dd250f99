package warrant

import (
	"fmt"
	"math"
	"slices"
	"strings"
	"testing"
	"unsafe"

	"warrant/api"
)

// noLayers are numbers of no layer.
var noLayers = []int{api.Layers, -1, api.Layers + 1, -api.Layers, 255, 256, 1 << 32, 1<<32 + 1, -1 << 32, math.MaxInt, math.MinInt}

// noNames are texts that are no names.
var noNames = []string{"", "A", "aB", "a1", "1", "a b", " a", "a ", "a-b", "_", "a\n", "\x00", "`", "{", "é", "aé", "\xff", "a\xff", "${a}", "*", "abcdefghijklm", strings.Repeat("a", 5_000_000)}

// by is a document that names one who may, so that it can be told from others; plainBy is its plain form.
func by(who string) string { return with("who", `"`+who+`"`) }

func plainBy(who string) string {
	return `{"statement":[{"effect":"allow","who":["` + who + `"],"do":["b"],"on":["c"]}]}`
}

func wantPut(t *testing.T, o *Office, layer int, name, text string, errno api.Errno, place int) {
	t.Helper()
	if e, p := o.Put(layer, name, text); e != errno || p != place {
		t.Errorf("Put(%d, %.40q, %.100q) = %d, %d, want %d, %d", layer, name, text, e, p, errno, place)
	}
}

func wantDrop(t *testing.T, o *Office, layer int, name string, errno api.Errno) {
	t.Helper()
	if e := o.Drop(layer, name); e != errno {
		t.Errorf("Drop(%d, %.40q) = %d, want %d", layer, name, e, errno)
	}
}

func wantShow(t *testing.T, o *Office, layer int, name, want string) {
	t.Helper()
	if s, e := o.Show(layer, name); s != want || e != api.OK {
		t.Errorf("Show(%d, %q)\n = %s, %d\nwant %s", layer, name, s, e, want)
	}
}

func wantNoShow(t *testing.T, o *Office, layer int, name string, errno api.Errno) {
	t.Helper()
	if s, e := o.Show(layer, name); s != "" || e != errno {
		t.Errorf("Show(%d, %.40q) = %q, %d, want %d", layer, name, s, e, errno)
	}
}

func wantNames(t *testing.T, o *Office, layer int, want ...string) {
	t.Helper()
	if l, e := o.Names(layer); !slices.Equal(l, want) || e != api.OK {
		t.Errorf("Names(%d) = %q, %d, want %q", layer, l, e, want)
	}
}

// kept tells all that an office keeps.
func kept(t *testing.T, o *Office) string {
	t.Helper()
	out := ""
	for layer := range api.Layers {
		names, errno := o.Names(layer)
		if errno != api.OK {
			t.Errorf("Names(%d): %d", layer, errno)
		}
		for _, name := range names {
			plain, errno := o.Show(layer, name)
			out += fmt.Sprintln(layer, name, plain, errno)
		}
	}
	return out
}

// keeps asks that a step leaves all documents of an office as they are.
func keeps(t *testing.T, o *Office, step func()) {
	t.Helper()
	before := kept(t, o)
	step()
	if after := kept(t, o); after != before {
		t.Errorf("kept were\n%sand now are\n%s", before, after)
	}
}

// fullOffice has documents a, b, c, d in each layer.
func fullOffice(t *testing.T) *Office {
	t.Helper()
	o := New()
	for layer := range api.Layers {
		for _, name := range []string{"d", "b", "a", "c"} {
			wantPut(t, o, layer, name, by(name+fmt.Sprint(layer)), api.OK, 0)
		}
	}
	return o
}

func TestP8NoDocuments(t *testing.T) {
	o := New()
	if o == nil {
		t.Fatal("New = nil")
	}
	for layer := range api.Layers {
		wantNames(t, o, layer)
		wantNoShow(t, o, layer, "a", api.ErrNone)
		wantDrop(t, o, layer, "a", api.ErrNone)
	}
}

func TestP8OneBesideAnother(t *testing.T) {
	a, b := New(), New()
	if a == b {
		t.Error("two offices are one")
	}
	wantPut(t, a, api.Person, "a", by("ann"), api.OK, 0)
	wantNames(t, b, api.Person)
	wantNoShow(t, b, api.Person, "a", api.ErrNone)
	wantDrop(t, b, api.Person, "a", api.ErrNone)
	wantPut(t, b, api.Person, "a", by("bob"), api.OK, 0)
	wantPut(t, b, api.Person, "b", by("bob"), api.OK, 0)
	wantShow(t, a, api.Person, "a", plainBy("ann"))
	wantNames(t, a, api.Person, "a")
	wantDrop(t, a, api.Person, "a", api.OK)
	wantShow(t, b, api.Person, "a", plainBy("bob"))
	wantNames(t, b, api.Person, "a", "b")
	wantNames(t, New(), api.Person)
	full := fullOffice(t)
	keeps(t, full, func() { wantPut(t, b, api.Person, "c", by("cid"), api.OK, 0) })
	keeps(t, b, func() { wantPut(t, full, api.Person, "e", by("cid"), api.ErrFull, 0) })
}

func TestP9KeepsWhatIsPut(t *testing.T) {
	o := New()
	for layer := range api.Layers {
		for _, name := range []string{"a", "z", "abcdefghijkl", "zzzzzzzzzzzz"} {
			wantPut(t, o, layer, name, by(name+fmt.Sprint(layer)), api.OK, 0)
			wantShow(t, o, layer, name, plainBy(name+fmt.Sprint(layer)))
		}
	}
	for layer := range api.Layers {
		wantNames(t, o, layer, "a", "abcdefghijkl", "z", "zzzzzzzzzzzz")
		for _, name := range []string{"a", "z", "abcdefghijkl", "zzzzzzzzzzzz"} {
			wantShow(t, o, layer, name, plainBy(name+fmt.Sprint(layer)))
		}
	}
}

// The names of a request's own words, of marks and of a document's members are names like any others.
func TestP9NamesThatMeanSomethingElsewhere(t *testing.T) {
	for _, name := range []string{"who", "do", "on", "if", "not", "statement", "true", "nil"} {
		o := New()
		wantPut(t, o, api.Guard, name, by(name), api.OK, 0)
		wantNames(t, o, api.Guard, name)
		wantShow(t, o, api.Guard, name, plainBy(name))
		wantDrop(t, o, api.Guard, name, api.OK)
		wantNames(t, o, api.Guard)
	}
}

func TestP9InPlaceOfAnEarlierOne(t *testing.T) {
	o := New()
	for _, who := range []string{"ann", "bob", "bob", "cid", "dan", "eve"} {
		wantPut(t, o, api.Bound, "a", by(who), api.OK, 0)
		wantNames(t, o, api.Bound, "a")
		wantShow(t, o, api.Bound, "a", plainBy(who))
	}
	wantPut(t, o, api.Thing, "a", by("thing"), api.OK, 0)
	wantShow(t, o, api.Bound, "a", plainBy("eve"))
	wantShow(t, o, api.Thing, "a", plainBy("thing"))
	wantNames(t, o, api.Guard)
	wantNames(t, o, api.Person)
}

func TestP9NoLayer(t *testing.T) {
	o := fullOffice(t)
	keeps(t, o, func() {
		for _, layer := range noLayers {
			for _, name := range append([]string{"a", "e"}, noNames...) {
				for _, text := range []string{by("x"), "", "{}", strings.Repeat(" ", api.MaxText+1)} {
					wantPut(t, o, layer, name, text, api.ErrLayer, 0)
				}
			}
		}
	})
}

func TestP9NoName(t *testing.T) {
	o := fullOffice(t)
	keeps(t, o, func() {
		for _, name := range noNames {
			for layer := range api.Layers {
				for _, text := range []string{by("x"), "", "{}", "[true,]", strings.Repeat(" ", api.MaxText+1)} {
					wantPut(t, o, layer, name, text, api.ErrName, 0)
				}
			}
		}
	})
	empty := New()
	for _, name := range noNames {
		wantPut(t, empty, api.Guard, name, by("x"), api.ErrName, 0)
	}
	wantNames(t, empty, api.Guard)
}

// noDocuments are texts with what Check has to say of them.
var noDocuments = []struct {
	text  string
	errno api.Errno
	place int
}{
	{strings.Repeat(" ", api.MaxText+1), api.ErrLong, 0}, {documentOf(plainest) + strings.Repeat(" ", api.MaxText), api.ErrLong, 0},
	{"", api.ErrSyntax, 0}, {"{", api.ErrSyntax, 1}, {"[true,]", api.ErrSyntax, 6}, {documentOf(plainest) + "x", api.ErrSyntax, len(documentOf(plainest))},
	{strings.Repeat("[", 9), api.ErrDeep, 8}, {`{"a":true,"\u0061":true}`, api.ErrTwice, 17},
	{"true", api.ErrShape, 0}, {"{}", api.ErrShape, 0}, {documentOf(), api.ErrShape, 0}, {documentOf(times(api.MaxStatements+1, plainest)...), api.ErrShape, 0},
	{documentOf(plainest, "true"), api.ErrShape, 2}, {with("who", `"$"`), api.ErrPattern, 1}, {documentOf(plainest, plainest, statementWith("on", `"${"`)), api.ErrPattern, 3},
}

func TestP9NoDocument(t *testing.T) {
	for _, o := range []*Office{New(), fullOffice(t)} {
		for layer := range api.Layers {
			keeps(t, o, func() {
				for _, c := range noDocuments {
					// Of a name that is kept, and of one that a full layer has no room for.
					wantPut(t, o, layer, "a", c.text, c.errno, c.place)
					wantPut(t, o, layer, "e", c.text, c.errno, c.place)
				}
			})
		}
	}
}

// Put takes just what Check takes.
func TestP9AsCheck(t *testing.T) {
	document := documentOf(plainest, fullest)
	for at := range document {
		for _, sign := range []string{"", "x", `"`, "{", "]", ",", "$", "\\", " ", "é", "\xff"} {
			text := document[:at] + sign + document[at+1:]
			o := New()
			errno, place := Check(text)
			wantPut(t, o, api.Guard, "a", text, errno, place)
			if names, _ := o.Names(api.Guard); (len(names) == 1) != (errno == api.OK) {
				t.Errorf("Put(%q): %d, and names are %q", text, errno, names)
			}
		}
	}
}

// fullest is a statement with some of everything.
const fullest = `{"effect":"deny","who":{"not":["a","${do}"]},"do":"*","on":["b"],"if":[{"op":"like","key":"k","value":"$$","no":true},{"op":"absent","key":"k"}]}`

func TestP9Full(t *testing.T) {
	o := New()
	for i, name := range []string{"b", "d", "f", "h"} {
		if i >= api.MaxDocuments {
			t.Fatal("more than a layer takes")
		}
		wantPut(t, o, api.Person, name, by(name), api.OK, 0)
	}
	keeps(t, o, func() {
		for _, name := range []string{"a", "c", "e", "g", "i", "bb", "abcdefghijkl"} {
			wantPut(t, o, api.Person, name, by("x"), api.ErrFull, 0)
			wantNoShow(t, o, api.Person, name, api.ErrNone)
		}
	})
	for _, name := range []string{"h", "b", "f", "d"} {
		wantPut(t, o, api.Person, name, by("new"+name), api.OK, 0)
		wantShow(t, o, api.Person, name, plainBy("new"+name))
		wantNames(t, o, api.Person, "b", "d", "f", "h")
	}
	for _, layer := range []int{api.Guard, api.Bound, api.Thing} {
		wantPut(t, o, layer, "a", by("x"), api.OK, 0)
		wantNames(t, o, layer, "a")
	}
	wantPut(t, o, api.Person, "a", by("x"), api.ErrFull, 0)
	wantDrop(t, o, api.Person, "d", api.OK)
	wantPut(t, o, api.Person, "a", by("x"), api.OK, 0)
	wantNames(t, o, api.Person, "a", "b", "f", "h")
	wantPut(t, o, api.Person, "d", by("x"), api.ErrFull, 0)
}

func TestP10Drop(t *testing.T) {
	for _, name := range []string{"a", "b", "c", "d"} {
		o := fullOffice(t)
		others := slices.DeleteFunc([]string{"a", "b", "c", "d"}, func(other string) bool { return other == name })
		wantDrop(t, o, api.Bound, name, api.OK)
		wantNames(t, o, api.Bound, others...)
		wantNoShow(t, o, api.Bound, name, api.ErrNone)
		wantDrop(t, o, api.Bound, name, api.ErrNone)
		for _, other := range others {
			wantShow(t, o, api.Bound, other, plainBy(other+"1"))
		}
		for _, layer := range []int{api.Guard, api.Person, api.Thing} {
			wantShow(t, o, layer, name, plainBy(name+fmt.Sprint(layer)))
			wantNames(t, o, layer, "a", "b", "c", "d")
		}
		wantPut(t, o, api.Bound, name, by("again"), api.OK, 0)
		wantNames(t, o, api.Bound, "a", "b", "c", "d")
		wantShow(t, o, api.Bound, name, plainBy("again"))
	}
}

func TestP10DropAll(t *testing.T) {
	o := fullOffice(t)
	for layer := range api.Layers {
		for _, name := range []string{"c", "a", "d", "b"} {
			wantDrop(t, o, layer, name, api.OK)
		}
		wantNames(t, o, layer)
	}
	if all := kept(t, o); all != "" {
		t.Errorf("kept are still\n%s", all)
	}
}

func TestP10Errors(t *testing.T) {
	for _, o := range []*Office{New(), fullOffice(t)} {
		keeps(t, o, func() {
			for _, layer := range noLayers {
				for _, name := range append([]string{"a", "e"}, noNames...) {
					wantDrop(t, o, layer, name, api.ErrLayer)
					wantNoShow(t, o, layer, name, api.ErrLayer)
				}
				if l, e := o.Names(layer); l != nil || e != api.ErrLayer {
					t.Errorf("Names(%d) = %q, %d", layer, l, e)
				}
			}
			for layer := range api.Layers {
				for _, name := range noNames {
					wantDrop(t, o, layer, name, api.ErrName)
					wantNoShow(t, o, layer, name, api.ErrName)
				}
				for _, name := range []string{"e", "aa", "ab", "who", "abcdefghijkl"} {
					wantDrop(t, o, layer, name, api.ErrNone)
					wantNoShow(t, o, layer, name, api.ErrNone)
				}
			}
		})
	}
}

// The same name in another layer is another document.
func TestP10OfThisLayerAlone(t *testing.T) {
	for layer := range api.Layers {
		o := New()
		wantPut(t, o, layer, "a", by("ann"), api.OK, 0)
		for other := range api.Layers {
			if other != layer {
				wantNames(t, o, other)
				wantNoShow(t, o, other, "a", api.ErrNone)
				wantDrop(t, o, other, "a", api.ErrNone)
			}
		}
		wantShow(t, o, layer, "a", plainBy("ann"))
	}
}

func TestP10ShowsAsPrint(t *testing.T) {
	long := documentOf(times(api.MaxStatements, statementWith("who", listOf(append(times(5, `"`+strings.Repeat("a", api.MaxPattern)+`"`), `"bbb"`)...)))...)
	for _, text := range []string{
		documentOf(plainest), " \n" + documentOf(plainest) + "\t", documentOf(fullest, plainest), with("on", `"\u0000\n\t\"\\\/é\u00e9\u001f"`), long,
		`{ "statement" : [ { "if" : [ ] , "on" : "c" , "who" : { "not" : "\u0061" } , "do" : [ "b" , "b" ] , "effect" : "deny" } ] }`,
	} {
		o := New()
		wantPut(t, o, api.Thing, "a", text, api.OK, 0)
		plain, errno := Print(text)
		if plain == "" || errno != api.OK {
			t.Fatalf("Print(%.100q) = %q, %d", text, plain, errno)
		}
		wantShow(t, o, api.Thing, "a", plain)
		wantShow(t, o, api.Thing, "a", plain)
	}
}

// What Show tells may be longer than what Put takes: the document stays.
func TestP10ShowsMoreThanPutTakes(t *testing.T) {
	pattern := `"` + strings.Repeat("a", api.MaxPattern) + `"`
	who := listOf(append(times(5, pattern), `"`+strings.Repeat("b", 33)+`"`)...)
	text := documentOf(times(api.MaxStatements, statementWith("who", who))...)
	o := New()
	wantPut(t, o, api.Guard, "a", text, api.OK, 0)
	plain, errno := o.Show(api.Guard, "a")
	if errno != api.OK || len(plain) <= api.MaxText {
		t.Fatalf("Show tells %d bytes, %d", len(plain), errno)
	}
	keeps(t, o, func() { wantPut(t, o, api.Guard, "a", plain, api.ErrLong, 0) })
}

func TestP10NamesSorted(t *testing.T) {
	for _, c := range [][]string{{"b", "a"}, {"ab", "b", "a"}, {"aa", "a", "ab", "aaa"}, {"z", "zz", "y", "yzzzzzzzzzzz"}, {"on", "o", "once", "nn"}, {"d", "c", "b", "a"}} {
		o := New()
		for i, name := range c {
			wantPut(t, o, api.Person, name, documentOf(plainest), api.OK, 0)
			sorted := slices.Sorted(slices.Values(c[:i+1]))
			wantNames(t, o, api.Person, sorted...)
		}
	}
}

func TestP10NamesAreTheCallers(t *testing.T) {
	o := New()
	for _, name := range []string{"b", "a", "d"} {
		wantPut(t, o, api.Person, name, by(name), api.OK, 0)
		keeps(t, o, func() {
			l, _ := o.Names(api.Person)
			again, _ := o.Names(api.Person)
			l = l[:cap(l)]
			for i := range l {
				l[i] = "x"
			}
			if slices.Contains(again[:cap(again)], "x") {
				t.Errorf("two answers share memory: %q", again)
			}
		})
	}
	wantPut(t, o, api.Person, "c", by("c"), api.OK, 0)
	wantNames(t, o, api.Person, "a", "b", "c", "d")
}

// An answer that was told stays as it is, whatever comes and goes behind it.
func TestP10AnswersStay(t *testing.T) {
	o := fullOffice(t)
	names, _ := o.Names(api.Guard)
	plain, _ := o.Show(api.Guard, "b")
	wantDrop(t, o, api.Guard, "a", api.OK)
	wantPut(t, o, api.Guard, "b", by("x"), api.OK, 0)
	wantPut(t, o, api.Guard, "e", by("x"), api.OK, 0)
	if !slices.Equal(names, []string{"a", "b", "c", "d"}) || plain != plainBy("b0") {
		t.Errorf("told were %q and %s", names, plain)
	}
}

// borrowed is a text in memory that its owner writes over.
func borrowed(text string) (string, func()) {
	bytes := []byte(text)
	return unsafe.String(unsafe.SliceData(bytes), len(bytes)), func() {
		for i := range bytes {
			bytes[i] = '#'
		}
	}
}

func TestP9KeepsNothingHandedIn(t *testing.T) {
	o := New()
	text, spoilText := borrowed(documentOf(fullest, plainest))
	plain, _ := Print(text)
	for _, name := range []string{"name", "name", "again"} {
		lent, spoilName := borrowed(name)
		wantPut(t, o, api.Guard, lent, text, api.OK, 0)
		spoilName()
	}
	spoilText()
	wantNames(t, o, api.Guard, "again", "name")
	wantShow(t, o, api.Guard, "name", plain)
	wantShow(t, o, api.Guard, "again", plain)
}

// model is an office as the document tells of it, without any care for speed.
type model [api.Layers]map[string]string

func newModel() model {
	var m model
	for layer := range m {
		m[layer] = map[string]string{}
	}
	return m
}

func (m model) put(layer int, name, who string) api.Errno {
	if _, has := m[layer][name]; !has && len(m[layer]) == api.MaxDocuments {
		return api.ErrFull
	}
	m[layer][name] = plainBy(who)
	return api.OK
}

func (m model) drop(layer int, name string) api.Errno {
	if _, has := m[layer][name]; !has {
		return api.ErrNone
	}
	delete(m[layer], name)
	return api.OK
}

func (m model) kept() string {
	out := ""
	for layer := range m {
		names := []string{}
		for name := range m[layer] {
			names = append(names, name)
		}
		slices.Sort(names)
		for _, name := range names {
			out += fmt.Sprintln(layer, name, m[layer][name], api.OK)
		}
	}
	return out
}

// Two offices through many steps, each against its own model.
func TestP9P10ManySteps(t *testing.T) {
	offices, models := []*Office{New(), New()}, []model{newModel(), newModel()}
	state := uint32(1)
	upTo := func(n int) int {
		state = state*1664525 + 1013904223
		return int(state>>16) % n
	}
	for step := range 4000 {
		which, layer := upTo(2), upTo(api.Layers)
		name := []string{"a", "ab", "b", "ba", "c", "who", "z"}[upTo(7)]
		o, m := offices[which], models[which]
		switch upTo(5) {
		case 0, 1:
			who := fmt.Sprint(step)
			wantPut(t, o, layer, name, by(who), m.put(layer, name, who), 0)
		case 2, 3:
			wantDrop(t, o, layer, name, m.drop(layer, name))
		case 4:
			wantPut(t, o, layer, name, "{}", api.ErrShape, 0)
		}
		for i := range offices {
			if got, want := kept(t, offices[i]), models[i].kept(); got != want {
				t.Fatalf("step %d: kept are\n%swant\n%s", step, got, want)
			}
		}
	}
}
