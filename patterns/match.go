package patterns

import "warrant/lists"

// Says tells what a name says, and whether it says anything.
type Says func(name string) (string, bool)

// Match tells whether a text is a pattern that matches a word.
func Match(text, word string, says Says) bool {
	p, err := Read(text)
	return err == nil && p.Matches(word, says)
}

// Matches tells whether the pattern matches a word. Both the word and what is said must be UTF-8.
func (p Pattern) Matches(word string, says Says) bool {
	signs, ok := p.signs(says)
	return ok && match(signs, []rune(word))
}

// signs puts what the names say in place of the variables: a star in there stands for itself. It answers false if a name says nothing.
func (p Pattern) signs(says Says) ([]rune, bool) {
	var out []rune
	for _, next := range p {
		if next.name == "" {
			out = append(out, next.sign)
			continue
		}
		said, ok := says(next.name)
		if !ok {
			return nil, false
		}
		out = append(out, []rune(said)...)
	}
	return out, true
}

// match lets only the last star that was met take more where the word goes on otherwise: what stands ahead of it was matched at the earliest place, so no earlier star could do better.
func match(signs, word []rune) bool {
	at, behindStar, taken := 0, 0, 0
	for here := 0; here < len(word); {
		switch {
		case at < len(signs) && isMany(signs[at]):
			at++
			behindStar, taken = at, here
		case at < len(signs) && takes(signs[at], word[here]):
			at++
			here++
		case behindStar > 0:
			taken++
			at, here = behindStar, taken
		default:
			return false
		}
	}
	return lists.All(signs[at:], isMany)
}

func isMany(sign rune) bool { return sign == many }

func takes(sign, character rune) bool { return sign == one || sign == character }
