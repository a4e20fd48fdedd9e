package judge

import (
	"strings"

	"careen/api"
	"careen/page"
)

// shelf is pages; a page's number is where it stands. Their places stay 0: page.Apply would pass over a record that stands at a lesser one than another ahead of it, but here each one counts in its turn.
type shelf []api.Page

// noughts answers n pages without records.
func noughts(n int) shelf {
	s := make(shelf, n)
	for i := range s {
		s[i] = page.Empty()
	}
	return s
}

// has tells whether there is a page of a number.
func (s shelf) has(n int) bool {
	return n >= 0 && n < len(s)
}

// stood tells whether Before is what stands on an RUpdate's page, and no byte of it is beyond that. On a page that isn't there nothing stands.
func (s shelf) stood(r *api.Rec) bool {
	if !s.has(r.Page) {
		return false
	}
	now, e := page.Get(s[r.Page], r.Off, max(len(r.Before), len(r.After)))
	return e == api.OK && strings.HasPrefix(now, r.Before)
}

// change does to a page, if it is there, what a record does to it.
func (s shelf) change(r *api.Rec) {
	if !s.has(r.Page) {
		return
	}
	if p, e := page.Put(s[r.Page], r.Off, r.After, 0); e == api.OK {
		s[r.Page] = p
	}
}

// data answers the pages' bytes.
func (s shelf) data() []string {
	list := make([]string, 0, len(s))
	for _, p := range s {
		list = append(list, p.Data)
	}
	return list
}
