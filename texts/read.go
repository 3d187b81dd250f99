package texts

import "warrant/api"

// reader stands at the first byte that is not yet taken. All bytes ahead of it are the beginning of some right text, so that a byte that can't be taken is the fault's place.
type reader struct {
	text string
	at   int
}

// Read reads a whole text. Its faults are ErrLong, SyntaxFault, DeepFault and TwiceFault: the first that is met.
func Read(text string) (Value, error) {
	if len(text) > api.MaxText {
		return nil, ErrLong
	}
	r := &reader{text: text}
	r.skipBlanks()
	v, err := r.value(1)
	if err != nil {
		return nil, err
	}
	r.skipBlanks()
	if r.at < len(text) {
		return nil, r.syntaxFault()
	}
	return v, nil
}

// peek gives 0 at the end too: no right text has that byte, so both are the same fault at the same place.
func (r *reader) peek() byte {
	if r.at == len(r.text) {
		return 0
	}
	return r.text[r.at]
}

func (r *reader) syntaxFault() error { return SyntaxFault{r.at} }

func (r *reader) skipBlanks() {
	for {
		switch r.peek() {
		case ' ', '\t', '\n', '\r':
			r.at++
		default:
			return
		}
	}
}

// take goes on behind bytes that must stand here.
func (r *reader) take(bytes string) error {
	for i := range len(bytes) {
		if r.peek() != bytes[i] {
			return r.syntaxFault()
		}
		r.at++
	}
	return nil
}

// value reads a value; depth is that of an object or list which begins here.
func (r *reader) value(depth int) (Value, error) {
	switch r.peek() {
	case '{':
		return r.object(depth)
	case '[':
		return r.list(depth)
	case '"':
		s, err := r.quoted()
		return String(s), err
	case 't':
		return Word(true), r.take("true")
	case 'f':
		return Word(false), r.take("false")
	}
	return nil, r.syntaxFault()
}

func (r *reader) list(depth int) (List, error) {
	var list List
	err := r.items(depth, ']', func() error {
		v, err := r.value(depth + 1)
		list = append(list, v)
		return err
	})
	return list, err
}

func (r *reader) object(depth int) (Object, error) {
	var object Object
	err := r.items(depth, '}', func() error {
		m, err := r.member(depth, object)
		object = append(object, m)
		return err
	})
	return object, err
}

// items reads what stands between the sign here and its end, with a comma between each two.
func (r *reader) items(depth int, end byte, readOne func() error) error {
	if depth > api.MaxDepth {
		return DeepFault{r.at}
	}
	r.at++
	r.skipBlanks()
	if r.peek() == end {
		r.at++
		return nil
	}
	for {
		if err := readOne(); err != nil {
			return err
		}
		r.skipBlanks()
		switch r.peek() {
		case ',':
			r.at++
			r.skipBlanks()
		case end:
			r.at++
			return nil
		default:
			return r.syntaxFault()
		}
	}
}

// member reads a member of an object at that depth, which has the earlier ones.
func (r *reader) member(depth int, earlier Object) (Member, error) {
	name, err := r.quoted()
	if err != nil {
		return Member{}, err
	}
	if earlier.Get(name) != nil {
		return Member{}, TwiceFault{r.at - 1}
	}
	r.skipBlanks()
	if err := r.take(":"); err != nil {
		return Member{}, err
	}
	r.skipBlanks()
	v, err := r.value(depth + 1)
	return Member{Name: name, Value: v}, err
}
