package parse

import (
	"scarf/api"
	"scarf/lex"
)

// misfit is what is thrown of a token that can't stand where it does.
type misfit struct {
	at int
	e  api.Errno
}

// row is a program's tokens, of which some are taken already.
type row struct {
	tokens []lex.Token
	taken  int
	length int // of the program, in bytes
}

// next tells the token that is taken next; behind the last one it is none, at the program's end.
func (r *row) next() lex.Token {
	if r.done() {
		return lex.Token{At: r.length}
	}
	return r.tokens[r.taken]
}

// done tells whether all tokens are taken.
func (r *row) done() bool {
	return r.taken >= len(r.tokens)
}

func (r *row) take() lex.Token {
	t := r.next()
	r.taken++
	return t
}

// is tells whether a word or a mark is next.
func (r *row) is(text string) bool {
	return r.next().Text == text
}

// throw ends the reading at the next token.
func (r *row) throw(e api.Errno) {
	panic(misfit{r.next().At, e})
}

// must ends the reading at the next token, if that doesn't fit.
func (r *row) must(fits bool) {
	if !fits {
		r.throw(api.ErrParse)
	}
}

// want takes a word or a mark that must be next.
func (r *row) want(text string) {
	r.must(r.is(text))
	r.take()
}

// name takes a name that must be next.
func (r *row) name() string {
	r.must(isName(r.next()))
	return r.take().Text
}

func isName(t lex.Token) bool {
	return t.Kind == lex.WordKind && !lex.Word(t.Text)
}
