package expr

import (
	"slices"
	"strconv"

	"tammy/api"
)

// piece is a bit of a text that is still to be written: some bytes, or (at isn't said) the text of the node at a place.
type piece struct {
	bytes string
	at    int
}

// said is the place in pieces that are bytes.
const said = -1

func say(s string) piece { return piece{bytes: s, at: said} }

func textOf(at int) piece { return piece{at: at} }

// Text is an expression's text.
func Text(l []api.Node) string {
	r, isOne := lay(l)
	if !isOne {
		return ""
	}
	var out []byte
	ways := texts()
	// What waits is on a stack, the next piece last: texts put into texts would be copied once for each node they stand in.
	waits := []piece{textOf(len(l) - 1)}
	for len(waits) > 0 {
		next := waits[len(waits)-1]
		waits = waits[:len(waits)-1]
		if next.at == said {
			out = append(out, next.bytes...)
			continue
		}
		pieces := ways[l[next.at].Kind](r, next.at)
		slices.Reverse(pieces)
		waits = append(waits, pieces...)
	}
	return string(out)
}

// texts is how the text of a node of each kind is made of pieces.
func texts() map[int]func(r row, at int) []piece {
	return map[int]func(r row, at int) []piece{
		api.Zero:  row.zero,
		api.One:   row.one,
		api.Var:   row.name,
		api.Con:   row.con,
		api.Union: row.union,
		api.Inter: row.inter,
		api.Proj:  row.proj,
	}
}

func (r row) zero(int) []piece { return []piece{say("0")} }

func (r row) one(int) []piece { return []piece{say("1")} }

func (r row) name(at int) []piece { return []piece{say(r.l[at].Name)} }

func (r row) con(at int) []piece {
	out := r.name(at)
	before := "("
	for _, part := range r.parts(at) {
		out = append(out, say(before), textOf(part))
		before = ","
	}
	if len(out) > 1 {
		out = append(out, say(")"))
	}
	return out
}

func (r row) proj(at int) []piece {
	number := strconv.Itoa(r.l[at].N)
	return []piece{say(r.l[at].Name), say("~"), say(number), say("("), textOf(at - 1), say(")")}
}

func (r row) union(at int) []piece { return r.joined(at, "|") }

func (r row) inter(at int) []piece { return r.joined(at, "&") }

// joined is two parts with a sign between.
func (r row) joined(at int, sign string) []piece {
	parts := r.parts(at)
	return slices.Concat(r.joint(at, parts[0]), []piece{say(sign)}, r.joint(at, parts[1]))
}

// joint is a part of a Union or an Inter, with the brackets that it needs.
func (r row) joint(at, part int) []piece {
	if r.isInBrackets(at, part) {
		return []piece{say("("), textOf(part), say(")")}
	}
	return []piece{textOf(part)}
}
