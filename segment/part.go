package segment

import (
	"concord/api"
	"concord/docset"
)

// Part is a segment and the set of its dead. It keeps the set of those that are alive, for that is what is asked.
type Part struct {
	*Segment
	alive *docset.Set
}

// NewPart makes a part; a nil set is an empty one.
func NewPart(g *Segment, dead *docset.Set) (*Part, error) {
	if dead == nil {
		none, err := docset.New(g.Docs())
		if err != nil {
			return nil, err
		}
		dead = none
	}
	if dead.Len() != g.Docs() {
		return nil, api.ErrSize
	}
	return &Part{Segment: g, alive: dead.Not()}, nil
}

// Dead is a copy of the set of its dead.
func (p *Part) Dead() *docset.Set {
	return p.alive.Not()
}

// Alive tells whether a local number is that of a live document.
func (p *Part) Alive(local int) bool {
	return p.alive.Has(local)
}

// NextAlive is the least local number of a live document from i on.
func (p *Part) NextAlive(i int) (int, bool) {
	return p.alive.Next(i)
}

// Live is the number of its live documents.
func (p *Part) Live() int {
	return p.alive.Count()
}

// LiveDocs are its live documents.
func (p *Part) LiveDocs() []api.Doc {
	var docs []api.Doc
	for local := range p.alive.All() {
		d, _ := p.Stored(local)
		docs = append(docs, d)
	}
	return docs
}
