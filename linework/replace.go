package linework

import (
	"linework/api"
	"linework/matches"
	"linework/scripts"
)

// replaced is a text with something put in the place of its matches; false, if
// nothing was.
func replaced(text string, p *scripts.Put) (string, bool) {
	table := matches.Look(p.Pattern, text)
	var out []byte
	number, done := 0, 0
	for spans := table.First(0); spans != nil; spans = following(table, spans[0]) {
		number++
		if number < p.Number {
			continue
		}
		out = append(out, text[done:spans[0].From]...)
		out = fill(out, p.Template, text, spans)
		done = spans[0].To
		if !p.All {
			break
		}
	}
	return string(append(out, text[done:]...)), number >= p.Number
}

// following is the match behind another, which is not the empty one at its end.
func following(table *matches.Table, match api.Span) []api.Span {
	spans := table.First(match.To)
	if spans != nil && spans[0].To == match.To {
		return table.First(match.To + 1)
	}
	return spans
}

// fill puts a template behind what is there, filled with what a match got.
func fill(out []byte, template []scripts.Piece, text string, spans []api.Span) []byte {
	for _, piece := range template {
		if piece.Group == scripts.Plain {
			out = append(out, piece.Byte)
			continue
		}
		if got := spans[piece.Group]; got.From >= 0 {
			out = append(out, text[got.From:got.To]...)
		}
	}
	return out
}
