package schema

import "concord/api"

// Good tells whether a document's values are good.
func Good(s api.Schema, values []api.Value) error {
	if Check(s) != nil {
		return api.ErrSchema
	}
	if len(values) > api.MaxValues {
		return api.ErrLimit
	}
	found := numbers(s)
	for _, v := range values {
		i, ok := found[v.Name]
		if !ok {
			return api.ErrField
		}
		if len(v.Text) > api.MaxText {
			return api.ErrLimit
		}
		if !takes(s.Fields[i].Kind, v.Text) {
			return api.ErrValue
		}
	}
	return nil
}

// takes tells whether a field of that kind takes a text.
func takes(kind int, text string) bool {
	switch kind {
	case api.KindKeyword:
		return text != "" && len(text) <= api.MaxTerm
	case api.KindNumber:
		_, ok := ParseNumber(text)
		return ok
	}
	return true
}
