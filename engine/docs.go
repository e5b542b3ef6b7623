package engine

import (
	"cmp"
	"slices"
	"strings"

	"concord/api"
	"concord/schema"
)

// Add adds a document, and answers its id.
func (e *Engine) Add(values []api.Value) (int, error) {
	if err := e.checkNew(values); err != nil {
		return 0, err
	}
	id := e.next
	e.next++
	e.waiting = append(e.waiting, api.Doc{Id: id, Values: copyOfValues(values)})
	if len(e.waiting) == api.MaxDocs {
		e.Cut()
	}
	return id, nil
}

// checkNew refuses values that are no good document, and a document for which there is no id left.
func (e *Engine) checkNew(values []api.Value) error {
	if err := schema.Good(e.schema, values); err != nil {
		return err
	}
	if e.next == api.MaxId {
		return api.ErrLimit
	}
	return nil
}

// Update deletes a document and adds another, and answers its id.
func (e *Engine) Update(id int, values []api.Value) (int, error) {
	if !e.has(id) {
		return 0, api.ErrDoc
	}
	// Nothing may be deleted where nothing can be added.
	if err := e.checkNew(values); err != nil {
		return 0, err
	}
	if err := e.Delete(id); err != nil {
		return 0, err
	}
	return e.Add(values)
}

// Delete deletes a document.
func (e *Engine) Delete(id int) error {
	if at, ok := e.findWaiting(id); ok {
		e.waiting = slices.Delete(e.waiting, at, at+1)
		return nil
	}
	at, local, ok := e.findAlive(id)
	if !ok {
		return api.ErrDoc
	}
	dead := e.parts[at].Dead()
	dead.Add(local)
	e.parts[at] = partOf(e.parts[at].Segment, dead)
	return nil
}

// Get is a live document.
func (e *Engine) Get(id int) (api.Doc, error) {
	if at, ok := e.findWaiting(id); ok {
		return api.Doc{Id: id, Values: copyOfValues(e.waiting[at].Values)}, nil
	}
	at, local, ok := e.findAlive(id)
	if !ok {
		return api.Doc{}, api.ErrDoc
	}
	d, _ := e.parts[at].Stored(local)
	return d, nil
}

// Live is the number of live documents.
func (e *Engine) Live() int {
	n := len(e.waiting)
	for _, p := range e.parts {
		n += p.Live()
	}
	return n
}

// has tells whether an id is that of a live document.
func (e *Engine) has(id int) bool {
	_, waits := e.findWaiting(id)
	_, _, alive := e.findAlive(id)
	return waits || alive
}

// findWaiting is a document's place among those that wait; false, if it doesn't wait.
func (e *Engine) findWaiting(id int) (int, bool) {
	return slices.BinarySearchFunc(e.waiting, id, func(d api.Doc, id int) int {
		return cmp.Compare(d.Id, id)
	})
}

// findAlive is the number of a document's part, and its local number there; false, if it is alive in no part.
func (e *Engine) findAlive(id int) (int, int, bool) {
	for at, p := range e.parts {
		if local, ok := p.Local(id); ok {
			return at, local, p.Alive(local)
		}
	}
	return 0, 0, false
}

// copyOfValues is values that share no memory with these.
func copyOfValues(values []api.Value) []api.Value {
	own := make([]api.Value, len(values))
	for i, v := range values {
		own[i] = api.Value{Name: strings.Clone(v.Name), Text: strings.Clone(v.Text)}
	}
	return own
}
