package warrant

import (
	"strings"
	"testing"

	"warrant/api"
)

// plainest is a statement that is right.
const plainest = `{"effect":"allow","who":"a","do":"b","on":"c"}`

// documentOf makes a document of statements.
func documentOf(statements ...string) string {
	return `{"statement":[` + strings.Join(statements, ",") + "]}"
}

// statementWith is the plainest statement with a member in place of its own of that name, or besides.
func statementWith(name, value string) string {
	members := []string{}
	for _, m := range [][2]string{{"effect", `"allow"`}, {"who", `"a"`}, {"do", `"b"`}, {"on", `"c"`}} {
		if m[0] != name {
			members = append(members, `"`+m[0]+`":`+m[1])
		}
	}
	members = append(members, `"`+name+`":`+value)
	return "{" + strings.Join(members, ",") + "}"
}

// with is a document of one such statement.
func with(name, value string) string { return documentOf(statementWith(name, value)) }

// ifs is a document of one statement with these conditions.
func ifs(conditions ...string) string {
	return with("if", "["+strings.Join(conditions, ",")+"]")
}

// asking is a condition by its operation and its value.
func asking(op, value string) string {
	return `{"op":"` + op + `","key":"k","value":` + value + "}"
}

// times is a list of the same text.
func times(n int, text string) []string {
	list := make([]string, n)
	for i := range list {
		list[i] = text
	}
	return list
}

// listOf writes a list.
func listOf(values ...string) string { return "[" + strings.Join(values, ",") + "]" }

// wantCheck asks Check, and Print for the same error and, with one, for no text.
func wantCheck(t *testing.T, text string, errno api.Errno, place int) {
	t.Helper()
	if e, p := Check(text); e != errno || p != place {
		t.Errorf("Check(%.100q) = %d, %d, want %d, %d", text, e, p, errno, place)
	}
	if s, e := Print(text); e != errno || (s == "") != (errno != api.OK) {
		t.Errorf("Print(%.100q) = %.60q, %d, want %d", text, s, e, errno)
	}
}

// wantPrint asks Print, and that the plain form's plain form is itself.
func wantPrint(t *testing.T, text, want string) {
	t.Helper()
	got, errno := Print(text)
	if got != want || errno != api.OK {
		t.Errorf("Print(%q)\n = %s, %d\nwant %s", text, got, errno, want)
	}
	if again, errno := Print(want); again != want || errno != api.OK {
		t.Errorf("Print(%s)\n = %s, %d", want, again, errno)
	}
}
