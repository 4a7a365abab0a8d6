package expr

import (
	"tammy/api"
	"tammy/lex"
	"tammy/sig"
)

// level is an expression that is being read: the one that is asked for, or one behind a bracket that is open.
type level struct {
	of   api.Node // the Con or Proj whose bracket it is; N of a Con is how many expressions are begun. Else nothing
	sign string   // what stands between its parts, as soon as there are two
}

// reader reads an expression from the front; its stack has the level asked for, and one for each bracket that is open.
type reader struct {
	l     []api.Tok
	at    int
	nodes []api.Node
	stack []level
}

// Read reads an expression.
func Read(l []api.Tok, at int) ([]api.Node, int, api.Errno) {
	if at < 0 || at > len(l) { // of such places nothing is promised: there is no token
		return nil, len(l), api.ErrForm
	}
	r := reader{l: l, at: at, stack: make([]level, 1)}
	for more := true; more; {
		isOpen, e := r.part()
		if e == api.OK && !isOpen {
			more, e = r.goOn()
		}
		if e != api.OK {
			return nil, r.at, e
		}
	}
	return r.nodes, r.at, api.OK
}

// isSign: is that sign the next token?
func (r *reader) isSign(sign string) bool {
	return r.at < len(r.l) && r.l[r.at].Kind == api.TSign && r.l[r.at].Text == sign
}

// part reads a part up to its end, or up to a bracket that it opens: is one open?
func (r *reader) part() (isOpen bool, e api.Errno) {
	if r.at == len(r.l) {
		return false, api.ErrForm
	}
	switch t := r.l[r.at]; {
	case r.isSign("("):
		return r.open(api.Node{})
	case t.Kind == api.TNumber && t.Text == "0":
		return r.leaf(api.Node{Kind: api.Zero})
	case t.Kind == api.TNumber && t.Text == "1":
		return r.leaf(api.Node{Kind: api.One})
	case t.Kind == api.TName && sig.IsVar(t.Text):
		return r.leaf(api.Node{Kind: api.Var, Name: t.Text})
	case t.Kind == api.TName && sig.IsCon(t.Text):
		return r.con(t.Text)
	case t.Kind == api.TName:
		return false, api.ErrName
	}
	return false, api.ErrForm
}

// leaf reads a token that is a part.
func (r *reader) leaf(n api.Node) (isOpen bool, e api.Errno) {
	r.nodes = append(r.nodes, n)
	r.at++
	return false, api.OK
}

// con reads a part that begins with a constructor's name: what stands behind that tells of which kind it is.
func (r *reader) con(name string) (isOpen bool, e api.Errno) {
	r.at++
	switch {
	case r.isSign("("):
		return r.open(api.Node{Kind: api.Con, Name: name, N: 1})
	case r.isSign("~"):
		r.at++
		return r.proj(name)
	}
	r.nodes = append(r.nodes, api.Node{Kind: api.Con, Name: name})
	return false, api.OK
}

// proj reads the number of a projection, and the bracket behind it.
func (r *reader) proj(name string) (isOpen bool, e api.Errno) {
	if r.at == len(r.l) || r.l[r.at].Kind != api.TNumber {
		return false, api.ErrForm
	}
	n, _ := lex.Number(r.l[r.at].Text)
	if !isPart(n) {
		return false, api.ErrArity
	}
	r.at++
	return r.open(api.Node{Kind: api.Proj, Name: name, N: n})
}

// open reads a bracket that opens.
func (r *reader) open(of api.Node) (isOpen bool, e api.Errno) {
	switch {
	case !r.isSign("("):
		return false, api.ErrForm
	case len(r.stack) > api.MaxDepth:
		return false, api.ErrFull
	}
	r.stack = append(r.stack, level{of: of})
	r.at++
	return true, api.OK
}

// goOn reads what stands behind a part, up to where the next one begins: is there one?
func (r *reader) goOn() (bool, api.Errno) {
	for {
		in := &r.stack[len(r.stack)-1]
		r.join(in.sign)
		switch {
		case r.isSign("|") && in.sign != "&", r.isSign("&") && in.sign != "|":
			in.sign = r.l[r.at].Text
			r.at++
			return true, api.OK
		case len(r.stack) == 1:
			return false, api.OK
		case r.isSign(",") && in.of.Kind == api.Con:
			return true, r.next(in)
		case !r.isSign(")"):
			return false, api.ErrForm
		}
		r.end(in.of)
	}
}

// join lays the node of two parts behind them, if the sign tells that there are two.
func (r *reader) join(sign string) {
	switch sign {
	case "|":
		r.nodes = append(r.nodes, api.Node{Kind: api.Union, N: 2})
	case "&":
		r.nodes = append(r.nodes, api.Node{Kind: api.Inter, N: 2})
	}
}

// next reads a comma between a constructor's expressions.
func (r *reader) next(in *level) api.Errno {
	if in.of.N == api.MaxArity {
		return api.ErrArity
	}
	*in = level{of: api.Node{Kind: api.Con, Name: in.of.Name, N: in.of.N + 1}}
	r.at++
	return api.OK
}

// end reads a bracket that ends.
func (r *reader) end(of api.Node) {
	if of.Kind == api.Con || of.Kind == api.Proj {
		r.nodes = append(r.nodes, of)
	}
	r.stack = r.stack[:len(r.stack)-1]
	r.at++
}
