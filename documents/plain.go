package documents

import (
	"strings"

	"warrant/lists"
	"warrant/texts"
)

// Plain writes a document in its plain form.
func (d Document) Plain() string {
	return `{"statement":` + plainList(d.Statements, plainStatement) + "}"
}

func plainList[T any](list []T, plain func(T) string) string {
	return "[" + strings.Join(lists.Map(list, plain), ",") + "]"
}

func plainStatement(s Statement) string {
	out := `{"effect":` + texts.Quote(s.Effect)
	out += `,"who":` + plainChoice(s.Who)
	out += `,"do":` + plainChoice(s.Do)
	out += `,"on":` + plainChoice(s.On)
	if len(s.If) > 0 {
		out += `,"if":` + plainList(s.If, plainCondition)
	}
	return out + "}"
}

func plainChoice(c Choice) string {
	list := plainList(c.Patterns, texts.Quote)
	if c.Not {
		return `{"not":` + list + "}"
	}
	return list
}

func plainCondition(c Condition) string {
	out := `{"op":` + texts.Quote(c.Op) + `,"key":` + texts.Quote(c.Key)
	if len(c.Values) > 0 {
		out += `,"value":` + plainList(c.Values, texts.Quote)
	}
	if c.No {
		out += `,"no":true`
	}
	return out + "}"
}
