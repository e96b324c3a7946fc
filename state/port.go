package state

import (
	"kinetoscope/api"
	"kinetoscope/arith"
	"kinetoscope/env"
	"kinetoscope/fds"
	"kinetoscope/split"
	"kinetoscope/varint"
)

const most = 100000 // things of a row that comes in

// port is where the bytes of things go out, or come in: a thing's fields are
// named once for both, so that they can't stand in two orders.
type port struct {
	out  []byte
	in   *varint.Reader // nil: they go out
	form bool           // what came in ahead of any of the reader's errors is no such thing
}

// ends tells whether nothing more is to come in.
func (p *port) ends() bool {
	return p.form || p.in.Err() != api.OK
}

// end is the first error of what came in; ErrLeft, if there is none, and bytes are left.
func (p *port) end() api.Errno {
	if p.form {
		return api.ErrForm
	}
	return p.in.End()
}

// number is a number's way out, or in.
func number[T ~int | ~int64](p *port, x *T) {
	if p.in == nil {
		p.out = append(p.out, varint.Put(varint.Zig(int64(*x)))...)
		return
	}
	*x = T(p.in.Int())
}

// numbers is that of some, in order.
func numbers[T ~int | ~int64](p *port, l ...*T) {
	for _, x := range l {
		number(p, x)
	}
}

// truth is a bool's, as a number.
func truth(p *port, x *bool) {
	n := 0
	if *x {
		n = 1
	}
	number(p, &n)
	if p.in == nil {
		return
	}
	p.form = p.form || n != 0 && n != 1
	*x = n == 1
}

// text is a text's.
func text(p *port, x *string) {
	if p.in == nil {
		p.out = append(p.out, varint.Texts(*x)...)
		return
	}
	*x = p.in.Text()
}

// row is that of how many things a list has, and of these, each by what each does.
func row[L ~[]T, T any](p *port, l *L, each func(*port, *T)) {
	n := len(*l)
	number(p, &n)
	if p.in != nil {
		*l = taken(p, n, each)
		return
	}
	for i := range *l {
		each(p, &(*l)[i])
	}
}

// taken are so many things that come in, up to an error; so many may not be there, so each has its place when it came.
func taken[T any](p *port, n int, each func(*port, *T)) []T {
	p.form = p.form || n < 0 || n > most
	var l []T
	for range n {
		if p.ends() {
			return nil
		}
		var x T
		each(p, &x)
		l = append(l, x)
	}
	return l
}

// whole is a state's way.
func whole(p *port, s *State) {
	kept(p, &s.Keep)
	row(p, &s.Progs, text)
	row(p, &s.Stack, frame)
	request(p, &s.Asked)
	answer(p, &s.Got)
	row(p, &s.Sigs, number)
	numbers(p, &s.Loose, &s.N, &s.Deep)
	truth(p, &s.Trapping)
	truth(p, &s.Ended)
	truth(p, &s.Done)
	number(p, &s.Fail)
}

// kept is that of what a subshell leaves.
func kept(p *port, k *Keep) {
	known(p, &k.Env)
	row(p, &k.Funcs, function)
	row(p, &k.Traps, trap)
	row(p, &k.FDs, pair)
}

// known is that of what a shell knows.
func known(p *port, e *env.Env) {
	row(p, &e.Vars, variable)
	row(p, &e.Args, text)
	number(p, &e.Status)
	text(p, &e.Flags)
}

func variable(p *port, v *arith.Var) {
	text(p, &v.Name)
	text(p, &v.Value)
}

func function(p *port, f *Fn) {
	text(p, &f.Name)
	numbers(p, &f.Prog, &f.Node)
}

func trap(p *port, t *Trap) {
	number(p, &t.Sig)
	text(p, &t.Text)
}

func pair(p *port, x *fds.Pair) {
	number(p, &x.FD)
	number(p, &x.K)
}

func frame(p *port, f *Frame) {
	numbers(p, &f.Op, &f.Prog, &f.Node, &f.Phase, &f.I)
	truth(p, &f.Quiet)
	numbers(p, &f.A, &f.B)
	text(p, &f.Text)
	row(p, &f.Nums, number)
	row(p, &f.Words, text)
	row(p, &f.Rows, masked)
	kept(p, &f.Keep)
}

func masked(p *port, r *split.Row) {
	text(p, &r.Text)
	text(p, &r.Mask)
}

func request(p *port, q *api.Request) {
	number(p, &q.Kind)
	numbers(p, &q.N, &q.M)
	text(p, &q.Text)
	row(p, &q.List, text)
}

func answer(p *port, a *api.Answer) {
	numbers(p, &a.Kind, &a.Err)
	numbers(p, &a.N, &a.M)
	text(p, &a.Text)
	row(p, &a.List, text)
	number(p, &a.Sig)
}
