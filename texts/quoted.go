package texts

import "unicode/utf8"

const hexDigits = "0123456789abcdef"

// sequences: by a character's first byte, how many follow it and between which bounds the second lies (RFC 3629; the bounds keep out surrogates, what is longer than needed, and what is above U+10FFFF).
var sequences = [...]struct {
	first, last byte
	following   int
	low, high   byte
}{
	{0xc2, 0xdf, 1, 0x80, 0xbf},
	{0xe0, 0xe0, 2, 0xa0, 0xbf},
	{0xe1, 0xec, 2, 0x80, 0xbf},
	{0xed, 0xed, 2, 0x80, 0x9f},
	{0xee, 0xef, 2, 0x80, 0xbf},
	{0xf0, 0xf0, 3, 0x90, 0xbf},
	{0xf1, 0xf3, 3, 0x80, 0xbf},
	{0xf4, 0xf4, 3, 0x80, 0x8f},
}

// quoted reads a string, and gives it as it is meant.
func (r *reader) quoted() (string, error) {
	if err := r.take(`"`); err != nil {
		return "", err
	}
	var out []byte
	for r.peek() != '"' {
		var err error
		if out, err = r.character(out); err != nil {
			return "", err
		}
	}
	r.at++
	return string(out), nil
}

// character reads one character, written in whatever way, and appends it.
func (r *reader) character(out []byte) ([]byte, error) {
	switch b := r.peek(); {
	case b < ' ':
		return out, r.syntaxFault()
	case b == '\\':
		r.at++
		c, err := r.escaped()
		return utf8.AppendRune(out, c), err
	case b < utf8.RuneSelf:
		r.at++
		return append(out, b), nil
	}
	start := r.at
	err := r.sequence()
	return append(out, r.text[start:r.at]...), err
}

// sequence goes on behind a character of several bytes.
func (r *reader) sequence() error {
	b := r.peek()
	for _, s := range sequences {
		if b < s.first || s.last < b {
			continue
		}
		r.at++
		if err := r.within(s.low, s.high); err != nil {
			return err
		}
		for range s.following - 1 {
			if err := r.within(0x80, 0xbf); err != nil {
				return err
			}
		}
		return nil
	}
	return r.syntaxFault()
}

// within goes on behind a byte that must lie between the bounds.
func (r *reader) within(low, high byte) error {
	if b := r.peek(); b < low || high < b {
		return r.syntaxFault()
	}
	r.at++
	return nil
}

// escaped reads what stands behind a backslash.
func (r *reader) escaped() (rune, error) {
	b := r.peek()
	switch b {
	case '"', '\\', '/':
		r.at++
		return rune(b), nil
	case 'n':
		r.at++
		return '\n', nil
	case 't':
		r.at++
		return '\t', nil
	case 'u':
		r.at++
		return r.fourDigits()
	}
	return 0, r.syntaxFault()
}

// fourDigits reads a character's number. A surrogate is told by its first two digits, and no right text begins with these.
func (r *reader) fourDigits() (rune, error) {
	var number rune
	for i := range 4 {
		digit, ok := hexDigit(r.peek())
		if !ok || i == 1 && number == 0xd && digit >= 8 {
			return 0, r.syntaxFault()
		}
		number = number*16 + digit
		r.at++
	}
	return number, nil
}

func hexDigit(b byte) (rune, bool) {
	switch {
	case '0' <= b && b <= '9':
		return rune(b - '0'), true
	case 'a' <= b && b <= 'f':
		return rune(b-'a') + 10, true
	case 'A' <= b && b <= 'F':
		return rune(b-'A') + 10, true
	}
	return 0, false
}

// Quote writes a string in its plain form.
func Quote(s string) string {
	out := []byte{'"'}
	for i := range len(s) {
		out = appendPlain(out, s[i])
	}
	return string(append(out, '"'))
}

func appendPlain(out []byte, b byte) []byte {
	switch {
	case b == '"' || b == '\\':
		return append(out, '\\', b)
	case b == '\n':
		return append(out, '\\', 'n')
	case b == '\t':
		return append(out, '\\', 't')
	case b < ' ':
		return append(out, '\\', 'u', '0', '0', hexDigits[b>>4], hexDigits[b&15])
	}
	return append(out, b)
}
