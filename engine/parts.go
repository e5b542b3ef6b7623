package engine

import (
	"slices"

	"concord/api"
	"concord/docset"
	"concord/merge"
	"concord/segment"
)

// Cut makes a segment of the documents that wait.
func (e *Engine) Cut() {
	if len(e.waiting) == 0 {
		return
	}
	// Each document was found good when it was added: Build refuses none.
	image, _ := segment.Build(e.schema, e.waiting)
	e.parts = append(e.parts, e.opened(image))
	e.waiting = nil
}

// Merge makes one segment of n neighbours from number from on.
func (e *Engine) Merge(from, n int) error {
	// The sum of the two may be greater than any int.
	if from < 0 || n < 1 || from > len(e.parts)-n {
		return api.ErrRange
	}
	image, err := merge.Merge(e.schema, e.parts[from:from+n])
	if err != nil {
		return err
	}
	var merged []*segment.Part
	if p := e.opened(image); p.Docs() > 0 {
		merged = append(merged, p)
	}
	e.parts = slices.Replace(e.parts, from, from+n, merged...)
	return nil
}

// Tidy merges as layer 11's Pick says, until it says none, and tells how often.
func (e *Engine) Tidy(fan int) int {
	for done := 0; ; done++ {
		from, n := merge.Pick(e.sizes(), fan)
		if n == 0 || e.Merge(from, n) != nil {
			return done
		}
	}
}

// sizes are the numbers of live documents of the parts.
func (e *Engine) sizes() []int {
	sizes := make([]int, len(e.parts))
	for i, p := range e.parts {
		sizes[i] = p.Live()
	}
	return sizes
}

// Segments are the segments.
func (e *Engine) Segments() []api.SegInfo {
	list := make([]api.SegInfo, len(e.parts))
	for i, p := range e.parts {
		list[i] = api.SegInfo{Docs: p.Docs(), Live: p.Live()}
	}
	return list
}

// Parts are the parts. They are new ones: what is written into them isn't seen here.
func (e *Engine) Parts() []*segment.Part {
	e.Cut()
	parts := make([]*segment.Part, len(e.parts))
	for i, p := range e.parts {
		parts[i] = partOf(p.Segment, p.Dead())
	}
	return parts
}

// opened is the part of an image that was made over the schema, with no dead.
func (e *Engine) opened(image []byte) *segment.Part {
	// Open takes all that Build and Merge make.
	g, _ := segment.Open(e.schema, image)
	return partOf(g, nil)
}

// partOf is the part of a segment and its dead. A set that is as great as the segment isn't refused.
func partOf(g *segment.Segment, dead *docset.Set) *segment.Part {
	p, _ := segment.NewPart(g, dead)
	return p
}
