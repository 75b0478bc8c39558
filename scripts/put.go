package scripts

import "linework/texts"

// put reads what stands behind the `s` of a command.
func (r *reader) put() (p Put, ok bool) {
	if !r.Accept('/') {
		return p, false
	}
	if p.Pattern, ok = r.pattern(); !ok {
		return p, false
	}
	if p.Template, ok = r.template(p.Pattern.Groups); !ok {
		return p, false
	}
	r.flags(&p)
	return p, true
}

// template reads a template for a pattern of so many brackets, and the `/` behind it.
func (r *reader) template(groups int) ([]Piece, bool) {
	var pieces []Piece
	for !r.Accept('/') {
		piece, ok := r.piece(groups)
		if !ok {
			return nil, false
		}
		pieces = append(pieces, piece)
	}
	return pieces, true
}

func (r *reader) piece(groups int) (Piece, bool) {
	switch {
	case r.Accept('&'):
		return Piece{Group: 0}, true
	case r.Accept('\\'):
		return r.escapedPiece(groups)
	}
	return r.plain()
}

// plain reads a byte that stands for itself.
func (r *reader) plain() (Piece, bool) {
	b := r.Peek()
	if b == texts.End || b == '\n' {
		return Piece{}, false
	}
	r.At++
	return Piece{Group: Plain, Byte: byte(b)}, true
}

// escapedPiece reads what stands behind a backslash.
func (r *reader) escapedPiece(groups int) (Piece, bool) {
	b := r.Peek()
	piece := Piece{Group: Plain, Byte: byte(b)}
	switch {
	case '1' <= b && b <= '0'+groups:
		piece = Piece{Group: b - '0'}
	case b == 'n':
		piece.Byte = '\n'
	case !r.NextIsIn(`\/&`):
		return Piece{}, false
	}
	r.At++
	return piece, true
}

// flags reads as many flags as may stand behind each other.
func (r *reader) flags(p *Put) {
	for {
		switch {
		case !p.All && r.Accept('g'):
			p.All = true
		case !p.Print && r.Accept('p'):
			p.Print = true
		case p.Number == 0 && r.NextIsIn("123456789"):
			p.Number = r.Peek() - '0'
			r.At++
		default:
			p.Number = max(p.Number, 1)
			return
		}
	}
}
