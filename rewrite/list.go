package rewrite

import (
	"slices"

	"concord/api"
)

// lister brings the kids of a list in, each to its place.
type lister struct {
	scored               bool
	need                 int
	musts, shoulds, nots []row

	mustRules, shouldRules, notRules []rule
}

// rule says which forms it brings in, and how.
type rule struct {
	fits func(x *form) bool
	take func(x *form)
}

// bring brings forms in, each by the first rule that fits it; the last one always does.
func bring(rules []rule, forms ...*form) {
	for _, x := range forms {
		first := slices.IndexFunc(rules, func(r rule) bool { return r.fits(x) })
		rules[first].take(x)
	}
}

// newLister is a lister with nothing brought in. A list in its form has nothing that another rule than the last one of its place is for, so what it has there is taken over as a whole.
func newLister(scored bool, need int) *lister {
	l := &lister{scored: scored, need: need}
	l.mustRules = []rule{
		{isNot, func(x *form) { bring(l.notRules, x.kids.one) }},
		{l.takesOver, func(x *form) {
			l.musts = behind(l.musts, x.musts)
			l.shoulds = behind(l.shoulds, x.shoulds)
			l.nots = behind(l.nots, x.nots)
		}},
		{isAny, func(x *form) { l.musts = append(l.musts, alone(x)) }},
	}
	l.shouldRules = []rule{
		{isNone, func(*form) {}},
		{isAlways, func(x *form) { l.musts = append(l.musts, alone(x)) }},
		{l.takesShoulds, func(x *form) { l.shoulds = append(l.shoulds, x.shoulds) }},
		{isAny, func(x *form) { l.shoulds = append(l.shoulds, alone(x)) }},
	}
	l.notRules = []rule{
		{isNone, func(*form) {}},
		{isNot, func(x *form) { bring(l.mustRules, l.uncounted(x.kids.one)) }},
		{isShouldList, func(x *form) { l.bringNots(x.shoulds) }},
		{isAny, func(x *form) { l.nots = append(l.nots, alone(x)) }},
	}
	return l
}

// bringNots brings the shoulds of a list in as nots. Those that were nots before are taken over as a whole.
func (l *lister) bringNots(r row) {
	switch {
	case r.wereNots:
		l.nots = append(l.nots, r)
	case r.one != nil:
		bring(l.notRules, r.one)
	default:
		for _, part := range r.rows {
			l.bringNots(part)
		}
	}
}

func isAny(*form) bool {
	return true
}

func isNone(x *form) bool {
	return x.own.Kind == api.QNone
}

func isNot(x *form) bool {
	return x.own.Kind == api.QNot
}

// isShouldList tells whether a form is a plain should-list.
func isShouldList(x *form) bool {
	return x.own.Kind == api.QList && x.own.N == 1 && x.musts.size == 0 && x.nots.size == 0
}

// takesOver tells whether a must is a list whose kids may stand in the place of it.
func (l *lister) takesOver(x *form) bool {
	return x.own.Kind == api.QList && x.own.N == 0 && (x.shoulds.size == 0 || l.need == 0)
}

// takesShoulds tells whether a should is a list whose kids may stand in the place of it.
func (l *lister) takesShoulds(x *form) bool {
	return isShouldList(x) && l.need <= 1
}

// isAlways tells whether a form matches every document. A match form is never a QConst.
func isAlways(x *form) bool {
	return x.own.Kind == api.QAll || x.own.Kind == api.QConst && x.kids.one.own.Kind == api.QAll
}

// isIdle tells whether a form matches every document and counts nothing.
func (l *lister) isIdle(x *form) bool {
	return isAlways(x) && (!l.scored || x.own.Kind == api.QConst && x.own.Weight == 0)
}

// uncounted is what matches as x does, which is in match form, and counts nothing.
func (l *lister) uncounted(x *form) *form {
	if l.scored {
		return fix(x, 0)
	}
	return x
}

// idle is the form that matches every document and counts nothing.
func (l *lister) idle() *form {
	return l.uncounted(all())
}

// listed is the form of a list of kids in their forms.
func listed(scored bool, need int, musts, shoulds, nots []*form) *form {
	l := newLister(scored, need)
	for _, x := range shoulds {
		if isAlways(x) {
			l.need = max(0, l.need-1)
		}
	}
	bring(l.mustRules, musts...)
	bring(l.shouldRules, shoulds...)
	bring(l.notRules, nots...)
	return l.answer()
}

// answer is the form of the list whose kids have been brought in.
func (l *lister) answer() *form {
	if hasKind(l.musts, api.QNone) || hasKind(l.nots, api.QAll) {
		return none()
	}
	l.musts = slices.DeleteFunc(l.musts, func(r row) bool { return r.one != nil && l.isIdle(r.one) })
	switch count := sizeOf(l.shoulds); {
	case l.need > count:
		return none()
	case l.need > 0 && l.need == count:
		return l.withAllShoulds()
	case l.need == 0 && !l.scored:
		l.shoulds = nil
	}
	return l.kept()
}

// kept is the answer of what has been kept.
func (l *lister) kept() *form {
	if l.need == 0 && len(l.musts) == 0 {
		if len(l.shoulds) == 0 {
			return l.onlyNots()
		}
		l.musts = []row{alone(l.idle())}
	}
	musts, shoulds, nots := joined(l.musts), joined(l.shoulds), joined(l.nots)
	if musts.size == 1 && shoulds.size == 0 && nots.size == 0 {
		return musts.one
	}
	return &form{own: api.Query{Kind: api.QList, N: l.need}, musts: musts, shoulds: shoulds, nots: nots}
}

// hasKind tells whether a form of this kind was brought in. What was taken over has neither a must that never matches nor a not that always does.
func hasKind(rows []row, kind int) bool {
	return slices.ContainsFunc(rows, func(r row) bool { return r.one != nil && r.one.own.Kind == kind })
}

// withAllShoulds is the answer where every should has to match.
func (l *lister) withAllShoulds() *form {
	again := newLister(l.scored, 0)
	for _, r := range l.musts {
		// What was taken over stays as it is; a list that stands alone may have waited for the need to be 0.
		if r.one == nil {
			again.musts = append(again.musts, r)
		} else {
			bring(again.mustRules, r.one)
		}
	}
	bring(again.mustRules, joined(l.shoulds).forms(nil)...)
	again.nots = append(again.nots, l.nots...)
	return again.answer()
}

// onlyNots is the answer where there are no musts and no shoulds, and none is needed.
func (l *lister) onlyNots() *form {
	switch r := joined(l.nots); r.size {
	case 0:
		return l.idle()
	case 1:
		return negation(r.one)
	default:
		r.wereNots = true
		return negation(&form{own: api.Query{Kind: api.QList, N: 1}, shoulds: r})
	}
}
