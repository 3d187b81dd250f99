package warrant

import (
	"warrant/api"
	"warrant/documents"
)

// decide goes through what P11 says step by step, for a request that may be.
func (o *Office) decide(r api.Request) api.Decision {
	if d, found := o.first(documents.Deny, r, api.Guard, api.Bound, api.Person, api.Thing); found {
		d.Verdict = api.Deny
		return d
	}
	if !o.letsPass(api.Guard, r) || !o.letsPass(api.Bound, r) {
		return api.Decision{Verdict: api.Silent}
	}
	if d, found := o.first(documents.Allow, r, api.Person, api.Thing); found {
		d.Verdict = api.Allow
		return d
	}
	return api.Decision{Verdict: api.Silent}
}

// first tells the first statement of that effect that applies, in these layers one behind the other.
func (o *Office) first(effect string, r api.Request, order ...int) (api.Decision, bool) {
	for _, layer := range order {
		if name, number, found := o.layers[layer].First(effect, r); found {
			return api.Decision{Layer: layer, Document: name, Statement: number}, true
		}
	}
	return api.Decision{}, false
}

// letsPass tells whether a layer that only sets limits sets none against the request: without documents it sets none at all.
func (o *Office) letsPass(layer int, r api.Request) bool {
	if len(o.layers[layer]) == 0 {
		return true
	}
	_, allowed := o.first(documents.Allow, r, layer)
	return allowed
}
