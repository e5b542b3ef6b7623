package segment

import (
	"bytes"

	"concord/api"
	"concord/codec"
	"concord/dict"
	"concord/frame"
	"concord/schema"
)

// blocksOfImage is the number of an image's blocks.
const blocksOfImage = 6

// Open opens an image that Build makes over this schema; any other is corrupt.
func Open(s api.Schema, image []byte) (*Segment, error) {
	if err := schema.Check(s); err != nil {
		return nil, err
	}
	g, err := opened(copyOfSchema(s), image)
	if err != nil {
		return nil, api.ErrCorrupt
	}
	return g, nil
}

// opened is the segment of an image; any error, if Build doesn't make it. Two blocks tell the documents: they are built again, and all bytes of the image are held against what that gives, so that nothing else in it needs to be looked at.
func opened(s api.Schema, image []byte) (*Segment, error) {
	blocks, err := frame.Unpack(kind, image)
	if err != nil {
		return nil, err
	}
	if len(blocks) != blocksOfImage {
		return nil, api.ErrCorrupt
	}
	docs, err := docsIn(s, blocks[1].Body, blocks[5].Body)
	if err != nil {
		return nil, err
	}
	c, err := contentOf(s, docs)
	if err != nil {
		return nil, err
	}
	if !bytes.Equal(c.image, image) {
		return nil, api.ErrCorrupt
	}
	terms, err := dict.Open(blocks[3].Body)
	if err != nil {
		return nil, err
	}
	return &Segment{schema: s, docs: docs, lengths: c.lengths, terms: terms, posts: c.posts, image: c.image}, nil
}

// docsIn is the documents of which the bodies of the ids and of the stored values tell.
func docsIn(s api.Schema, ids, stored []byte) ([]api.Doc, error) {
	list, err := idsIn(ids)
	if err != nil {
		return nil, err
	}
	docs := make([]api.Doc, len(list))
	r := codec.NewReader(stored)
	for local, id := range list {
		values, err := valuesIn(s, r)
		if err != nil {
			return nil, err
		}
		docs[local] = api.Doc{Id: id, Values: values}
	}
	return docs, r.Done()
}

// idsIn is the ids of a body.
func idsIn(body []byte) ([]int, error) {
	r := codec.NewReader(body)
	list, err := r.Rising(api.MaxDocs)
	if err != nil {
		return nil, err
	}
	return list, r.Done()
}

// valuesIn reads the values of one document.
func valuesIn(s api.Schema, r *codec.Reader) ([]api.Value, error) {
	n, err := r.Upto(api.MaxValues)
	if err != nil {
		return nil, err
	}
	values := make([]api.Value, n)
	for i := range values {
		field, err := r.Upto(len(s.Fields) - 1)
		if err != nil {
			return nil, err
		}
		text, err := r.Text(api.MaxText)
		if err != nil {
			return nil, err
		}
		values[i] = api.Value{Name: s.Fields[field].Name, Text: text}
	}
	return values, nil
}
