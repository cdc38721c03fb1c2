package parse

import "vertex/api"

// theEnd is the kind of the token that stands for a text's end; no other one has it.
const theEnd = 0

// reader goes through a text's tokens, the last of which is the end. next is the place of the first one that isn't taken.
type reader struct {
	tokens []api.Token
	next   int
}

// giveUp ends the reading with a fault at a token. It doesn't come back.
func giveUp(at api.Token, why error) {
	panic(&api.Fault{Line: at.Line, Col: at.Col, Err: why})
}

// now gives the token that stands there, and leaves it.
func (r *reader) now() api.Token { return r.tokens[r.next] }

// take gives the token that stands there, and goes on behind it.
func (r *reader) take() api.Token {
	t := r.now()
	r.next++
	return t
}

func (r *reader) is(kind int) bool { return r.now().Kind == kind }

func (r *reader) isWord(word int) bool { return isWord(r.now(), word) }

func isWord(t api.Token, word int) bool { return t.Kind == api.TWord && t.Word == word }

func (r *reader) isSign() bool { return isSign(r.now()) }

func isSign(t api.Token) bool { return t.Kind == api.TPlus || t.Kind == api.TMinus }

func (r *reader) isRelation() bool {
	return r.is(api.TLess) || r.is(api.TGreater) || r.is(api.TEqual)
}

// isLabel tells whether a name with a colon behind it stands there. Behind a name there is always a token, the end at least.
func (r *reader) isLabel() bool {
	return r.is(api.TName) && r.tokens[r.next+1].Kind == api.TColon
}

// due takes a token of a kind, or gives up where there is another one.
func (r *reader) due(kind int) api.Token {
	if !r.is(kind) {
		giveUp(r.now(), api.ErrDue)
	}
	return r.take()
}

// label takes a name and the colon behind it, if they stand there, and gives the name; else it gives none.
func (r *reader) label() string {
	if !r.isLabel() {
		return ""
	}
	name := r.take().Text
	r.take()
	return name
}

// name takes a name, with its place.
func (r *reader) name() api.Mention {
	t := r.due(api.TName)
	return api.Mention{Name: t.Text, Line: t.Line, Col: t.Col}
}

// relation takes a relation, and gives its kind.
func (r *reader) relation() int {
	if !r.isRelation() {
		giveUp(r.now(), api.ErrDue)
	}
	return r.take().Kind
}

// secondRelation takes the second one of three sides' relations, which must be like the first one, and not TEqual.
func (r *reader) secondRelation(first int) {
	if r.is(api.TEqual) || !r.is(first) {
		giveUp(r.now(), api.ErrSigns)
	}
	r.take()
}
