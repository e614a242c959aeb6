package routes

import (
	"strconv"

	"transhipment/api"
	"transhipment/label"
	"transhipment/matcher"
)

// Find are the routes that labels lead to.
func Find(r api.Route, l []api.Label) ([]api.Target, api.Errno) {
	if !Right(r) || !label.Right(l) {
		return nil, api.ErrArg
	}
	var found []api.Target
	var lead func(path string, r api.Route)
	lead = func(path string, r api.Route) {
		ahead := len(found)
		for i, inner := range r.Routes {
			holds, _ := matcher.Holds(l, inner.Match...) // no error, for all of them may be
			if !holds {
				continue
			}
			lead(path+"."+strconv.Itoa(i), inner)
			if !inner.On {
				break
			}
		}
		if len(found) == ahead { // each route within it that holds would have led to one
			r.Routes = nil
			found = append(found, api.Target{Path: path, Route: r})
		}
	}
	lead("", r)
	return found, api.OK
}
