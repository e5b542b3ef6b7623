package segment

import (
	"slices"

	"concord/api"
	"concord/codec"
	"concord/dict"
	"concord/frame"
	"concord/posts"
	"concord/schema"
	"concord/tokens"
)

// kind is the kind of a segment's image: the letter S.
const kind = 83

// Build makes a segment's image.
func Build(s api.Schema, docs []api.Doc) ([]byte, error) {
	c, err := contentOf(s, docs)
	return c.image, err
}

// content is what documents come to in a segment.
type content struct {
	lengths [][]int // by field and local number
	posts   []byte  // of all terms, by rising key
	image   []byte
}

// contentOf is what documents come to; an error, if they make no segment.
func contentOf(s api.Schema, docs []api.Doc) (content, error) {
	if err := faultOf(s, docs); err != nil {
		return content{}, err
	}
	lengths, terms := gathered(s, docs)
	entries, all, err := written(terms)
	if err != nil {
		return content{}, err
	}
	image, err := imageOf(s, docs, lengths, entries, all)
	if err != nil {
		return content{}, err
	}
	return content{lengths: lengths, posts: all, image: image}, nil
}

// faultOf is the first reason why documents make no segment; nil, if they make one.
func faultOf(s api.Schema, docs []api.Doc) error {
	if err := schema.Check(s); err != nil {
		return err
	}
	if len(docs) > api.MaxDocs {
		return api.ErrLimit
	}
	before := -1
	for _, d := range docs {
		if d.Id < 0 || d.Id >= api.MaxId {
			return api.ErrRange
		}
		if d.Id <= before {
			return api.ErrOrder
		}
		if err := schema.Good(s, d.Values); err != nil {
			return err
		}
		before = d.Id
	}
	return nil
}

// gathered is the lengths, by field and local number, and the postings of all terms, by key.
func gathered(s api.Schema, docs []api.Doc) ([][]int, map[string][]api.Posting) {
	lengths := make([][]int, len(s.Fields))
	terms := make(map[string][]api.Posting)
	for field := range lengths {
		lengths[field] = make([]int, len(docs))
		for local, d := range docs {
			list := tokens.Field(s, field, d.Values)
			lengths[field][local] = len(list)
			gather(terms, field, local, list)
		}
	}
	return lengths, terms
}

// gather puts the tokens of a field in a document into the postings of their terms. Documents come by rising local number: a term that has a posting of this one has it as its last.
func gather(terms map[string][]api.Posting, field, local int, list []api.Token) {
	for _, t := range list {
		key := Key(field, t.Text)
		postings := terms[key]
		last := len(postings) - 1
		if last < 0 || postings[last].Doc != local {
			postings = append(postings, api.Posting{Doc: local})
			last++
		}
		postings[last].Pos = append(postings[last].Pos, t.Pos)
		terms[key] = postings
	}
}

// written is the dictionary's entries of all terms, by rising key, and their postings' bytes, one behind the other.
func written(terms map[string][]api.Posting) ([]api.Entry, []byte, error) {
	var entries []api.Entry
	w := codec.NewWriter()
	for _, key := range sortedKeys(terms) {
		list := terms[key]
		b, err := posts.Encode(list)
		if err != nil {
			return nil, nil, err
		}
		entries = append(entries, api.Entry{Key: key, Docs: len(list), Total: positionsIn(list), At: w.Len(), Size: len(b)})
		w.Raw(b)
	}
	return entries, w.Bytes(), nil
}

// sortedKeys are the keys of all terms, rising: a map tells them in any order.
func sortedKeys(terms map[string][]api.Posting) []string {
	keys := make([]string, 0, len(terms))
	for key := range terms {
		keys = append(keys, key)
	}
	slices.Sort(keys)
	return keys
}

// positionsIn is the number of positions in all postings of a list.
func positionsIn(list []api.Posting) int {
	n := 0
	for _, p := range list {
		n += len(p.Pos)
	}
	return n
}

// imageOf puts the six blocks together.
func imageOf(s api.Schema, docs []api.Doc, lengths [][]int, entries []api.Entry, all []byte) ([]byte, error) {
	var list blockList
	list.add(schema.Encode(s))
	list.add(idsBody(docs))
	list.add(lengthsBody(lengths))
	list.add(dict.Build(entries))
	list.add(all, nil)
	list.add(storedBody(s, docs), nil)
	if list.err != nil {
		return nil, list.err
	}
	return frame.Pack(kind, list.blocks)
}

// blockList is the blocks of an image, with the tags 1, 2, .., and the first error with which a body was refused.
type blockList struct {
	blocks []api.Block
	err    error
}

func (l *blockList) add(body []byte, err error) {
	l.blocks = append(l.blocks, api.Block{Tag: byte(len(l.blocks) + 1), Body: body})
	if l.err == nil {
		l.err = err
	}
}

// idsBody is the ids as a rising list.
func idsBody(docs []api.Doc) ([]byte, error) {
	ids := make([]int, len(docs))
	for local, d := range docs {
		ids[local] = d.Id
	}
	w := codec.NewWriter()
	err := w.Rising(ids)
	return w.Bytes(), err
}

// lengthsBody is each field's lengths as a packed list.
func lengthsBody(lengths [][]int) ([]byte, error) {
	w := codec.NewWriter()
	for _, list := range lengths {
		if err := w.Packed(list); err != nil {
			return nil, err
		}
	}
	return w.Bytes(), nil
}

// storedBody is the documents' values.
func storedBody(s api.Schema, docs []api.Doc) []byte {
	w := codec.NewWriter()
	for _, d := range docs {
		w.Uvarint(uint64(len(d.Values)))
		for _, v := range d.Values {
			field, _ := schema.Find(s, v.Name)
			w.Uvarint(uint64(field))
			w.Text(v.Text)
		}
	}
	return w.Bytes()
}
