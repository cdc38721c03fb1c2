package model

import (
	"strconv"

	"vertex/api"
)

// takenNames gathers the objective's name and those of the claims, or tells the first claim whose name stands ahead of it already: P7.1.
func takenNames(t api.Text) (map[string]struct{}, error) {
	// An objective without a name takes none, as no claim's name is held against the empty one.
	taken := map[string]struct{}{t.Name: {}}
	for _, claim := range t.Claims {
		if claim.Name == "" {
			continue
		}
		if _, twice := taken[claim.Name]; twice {
			return nil, &api.Fault{Line: claim.Line, Col: claim.Col, Err: api.ErrTwice}
		}
		taken[claim.Name] = struct{}{}
	}
	return taken, nil
}

// namer gives what names the rows whose claims have no name, one behind the other, each asked for by its own number: P7.4.
func namer(taken map[string]struct{}) func(own int) string {
	next := 1
	return func(own int) string {
		// A row tries all numbers from its own one up to the one that it gets, and a row behind it begins further on: so none below next is to be tried again, and none is given twice.
		next = max(next, own)
		for {
			name := "R" + strconv.Itoa(next)
			next++
			if _, ok := taken[name]; !ok {
				return name
			}
		}
	}
}

// places gives the names of a text's variables in the order in which they first stand, and the place of each: P7.2.
func places(t api.Text) (place map[string]int, names []string) {
	place = map[string]int{}
	stand := func(name string) {
		if _, stood := place[name]; name != "" && !stood {
			place[name] = len(names)
			names = append(names, name)
		}
	}
	items := func(items []api.Item) {
		for _, item := range items {
			stand(item.Name)
		}
	}
	mentions := func(mentions []api.Mention) {
		for _, mention := range mentions {
			stand(mention.Name)
		}
	}
	items(t.Items)
	for _, claim := range t.Claims {
		items(claim.Items)
	}
	for _, limit := range t.Limits {
		stand(limit.Name)
	}
	mentions(t.Wholes)
	mentions(t.Twos)
	return place, names
}
