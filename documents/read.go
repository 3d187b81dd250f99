package documents

import (
	"warrant/api"
	"warrant/lists"
	"warrant/patterns"
	"warrant/texts"
)

// Read makes a document of a text. Its faults are those of texts.Read; a ShapeFault; or a StatementFault around a ShapeFault or a patterns.Fault.
func Read(text string) (Document, error) {
	v, err := texts.Read(text)
	if err != nil {
		return Document{}, err
	}
	object, _ := v.(texts.Object)
	list, _ := object.Get("statement").(texts.List)
	if len(object) != 1 || len(list) == 0 || len(list) > api.MaxStatements {
		return Document{}, ShapeFault{"document"}
	}
	statements, faults := lists.Each(list, readStatement)
	if at, found := lists.First(faults, isFault); found {
		return Document{}, StatementFault{Number: at + 1, Fault: faults[at]}
	}
	return Document{Statements: statements}, nil
}

func readStatement(v texts.Value) (Statement, error) {
	object, err := readObject(v, "effect", "who", "do", "on", "if")
	if err != nil {
		return Statement{}, err
	}
	effect, effectFault := readString(object.Get("effect"), isEffect)
	who, whoFault := readChoice(object.Get("who"))
	do, doFault := readChoice(object.Get("do"))
	on, onFault := readChoice(object.Get("on"))
	conditions, ifFault := readConditions(object.Get("if"))
	s := Statement{Effect: effect, Who: who, Do: do, On: on, If: conditions}
	return s, gravest(effectFault, whoFault, doFault, onFault, ifFault)
}

// readObject takes an object that has none but these members. One that is missing is left to who reads it: it gets nil for a value.
func readObject(v texts.Value, names ...string) (texts.Object, error) {
	object, ok := v.(texts.Object)
	known := func(m texts.Member) bool { return lists.Has(names, m.Name) }
	if !ok || !lists.All(object, known) {
		return nil, ShapeFault{"object"}
	}
	return object, nil
}

// readString takes a string that is as it must be.
func readString(v texts.Value, isRight func(string) bool) (string, error) {
	s, ok := v.(texts.String)
	if !ok || !isRight(string(s)) {
		return "", ShapeFault{"string"}
	}
	return string(s), nil
}

func isEffect(s string) bool { return s == Allow || s == Deny }

func readChoice(v texts.Value) (Choice, error) {
	if _, ok := v.(texts.Object); !ok {
		these, err := oneOrList(v, readPattern)
		return Choice{Patterns: these}, err
	}
	object, err := readObject(v, "not")
	if err != nil {
		return Choice{}, err
	}
	these, err := oneOrList(object.Get("not"), readPattern)
	return Choice{Not: true, Patterns: these}, err
}

func readPattern(v texts.Value) (string, error) {
	s, ok := v.(texts.String)
	if !ok {
		return "", ShapeFault{"pattern"}
	}
	_, err := patterns.Read(string(s))
	return string(s), err
}

// oneOrList reads a single value, or each of a list of 1 to MaxPatterns.
func oneOrList[T any](v texts.Value, read func(texts.Value) (T, error)) ([]T, error) {
	list, ok := v.(texts.List)
	if !ok {
		list = texts.List{v}
	}
	if len(list) == 0 || len(list) > api.MaxPatterns {
		return nil, ShapeFault{"list"}
	}
	out, faults := lists.Each(list, read)
	return out, gravest(faults...)
}

func readConditions(v texts.Value) ([]Condition, error) {
	if v == nil {
		return nil, nil
	}
	list, ok := v.(texts.List)
	if !ok || len(list) > api.MaxConditions {
		return nil, ShapeFault{"if"}
	}
	out, faults := lists.Each(list, readCondition)
	return out, gravest(faults...)
}

func readCondition(v texts.Value) (Condition, error) {
	object, err := readObject(v, "op", "key", "value", "no")
	if err != nil {
		return Condition{}, err
	}
	op, err := readOperation(object.Get("op"))
	if err != nil {
		return Condition{}, err
	}
	key, keyFault := readString(object.Get("key"), patterns.IsName)
	values, valueFault := op.look(object.Get("value"))
	no, noFault := readNo(object.Get("no"))
	c := Condition{Op: op.name, Key: key, Values: values, No: no}
	return c, gravest(keyFault, valueFault, noFault)
}

func readNo(v texts.Value) (bool, error) {
	if v == nil {
		return false, nil
	}
	no, ok := v.(texts.Word)
	if !ok {
		return false, ShapeFault{"no"}
	}
	return bool(no), nil
}
