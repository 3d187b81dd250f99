package documents

import (
	"warrant/api"
	"warrant/lists"
	"warrant/patterns"
	"warrant/requests"
)

// First tells the number (from 1 on) of the first statement of that effect that applies to a request, and whether there is any. The request must be one that may be.
func (d Document) First(effect string, r api.Request) (int, bool) {
	at, found := lists.First(d.Statements, func(s Statement) bool { return s.Effect == effect && s.applies(r) })
	if !found {
		return 0, false
	}
	return at + 1, true
}

func (s Statement) applies(r api.Request) bool {
	says := requests.Saying(r)
	return s.Who.takes(r.Who, says) && s.Do.takes(r.Do, says) && s.On.takes(r.On, says) &&
		lists.All(s.If, func(c Condition) bool { return c.holds(says) })
}

func (c Choice) takes(word string, says patterns.Says) bool {
	return anyMatches(c.Patterns, word, says) != c.Not
}

func anyMatches(these []string, word string, says patterns.Says) bool {
	return lists.Any(these, func(pattern string) bool { return patterns.Match(pattern, word, says) })
}
