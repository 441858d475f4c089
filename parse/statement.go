package parse

import "interleave/api"

// block = "{" { statement } "}" .
func (p *parser) block() []api.Stmt {
	var body []api.Stmt
	p.expect("{")
	for !p.failed && !p.skip("}") {
		body = append(body, p.statement())
	}
	return body
}

func (p *parser) statement() api.Stmt {
	first := p.peek()
	if first.Kind == api.TName {
		return p.assignment()
	}
	op, read := keywordStatement(first.Text)
	if read == nil {
		p.fail()
		return api.Stmt{}
	}
	p.pass()
	s := api.Stmt{Op: op, Line: first.Line}
	read(p, &s)
	return s
}

// keywordStatement returns the kind of the statements that word begins, and the method that reads what follows the word; or 0 and nil.
func keywordStatement(word string) (int, func(*parser, *api.Stmt)) {
	switch word {
	case "if":
		return api.SIf, (*parser).choice
	case "while":
		return api.SWhile, (*parser).loop
	case "lock":
		return api.SLock, (*parser).namedBlock
	case "read":
		return api.SRead, (*parser).namedBlock
	case "write":
		return api.SWrite, (*parser).namedBlock
	case "transaction":
		return api.STransaction, (*parser).plainBlock
	case "atomic":
		return api.SAtomic, (*parser).plainBlock
	case "wait":
		return api.SWait, (*parser).nameOnly
	case "notify":
		return api.SNotify, (*parser).nameOnly
	case "notifyall":
		return api.SNotifyAll, (*parser).nameOnly
	case "spawn":
		return api.SSpawn, (*parser).nameOnly
	case "join":
		return api.SJoin, (*parser).nameOnly
	case "set":
		return api.SSet, (*parser).setting
	case "get":
		return api.SGet, (*parser).getting
	}
	return 0, nil
}

func (p *parser) assignment() api.Stmt {
	s := api.Stmt{Op: api.SAssign, Line: p.peek().Line, Name: p.name(), Index: p.index()}
	p.expect("=")
	s.Expr = p.expr()
	p.expect(";")
	return s
}

func (p *parser) choice(s *api.Stmt) {
	s.Expr = p.expr()
	s.Body = p.block()
	if p.skip("else") {
		s.Else = p.block()
	}
}

func (p *parser) loop(s *api.Stmt) {
	s.Expr = p.expr()
	s.Body = p.block()
}

func (p *parser) namedBlock(s *api.Stmt) {
	s.Name = p.name()
	s.Body = p.block()
}

func (p *parser) plainBlock(s *api.Stmt) {
	s.Body = p.block()
}

func (p *parser) nameOnly(s *api.Stmt) {
	s.Name = p.name()
	p.expect(";")
}

func (p *parser) setting(s *api.Stmt) {
	s.Name = p.name()
	s.Expr = p.expr()
	p.expect(";")
}

func (p *parser) getting(s *api.Stmt) {
	s.Name = p.name()
	s.Arg = p.name()
	p.expect(";")
}
