package linework

import (
	"strconv"

	"linework/api"
	"linework/scripts"
)

// command goes on with the command at hand, from the stage that it came to.
func (e *Editor) command() step {
	c := &e.commands[e.at]
	if e.stage == looking {
		if e.looked == e.fuel {
			return e.stop(api.Spent)
		}
		e.looked++
		e.stage = choosing
	}
	if e.stage == choosing {
		selected, known := e.selects(c)
		if !known {
			return rest
		}
		if selected == c.Not {
			return e.pass(c)
		}
		e.stage = doing
	}
	return e.do(c)
}

// stop ends all work.
func (e *Editor) stop(state int) step {
	e.state = state
	return rest
}

// pass goes past a command that is not selected.
func (e *Editor) pass(c *scripts.Command) step {
	if c.Kind == scripts.Block {
		return e.jump(c.Goal)
	}
	return e.jump(e.at + 1)
}

func (e *Editor) jump(goal int) step {
	e.at = goal
	return onward
}

// do does a command that is selected.
func (e *Editor) do(c *scripts.Command) step {
	switch c.Kind {
	case scripts.Drop:
		return over
	case scripts.DropLine:
		return e.doDropLine()
	case scripts.Instead:
		e.print(c.Text)
		return over
	case scripts.Next, scripts.Join:
		return e.doNext(c.Kind)
	case scripts.Quit:
		e.state = api.Quit
		return finish
	case scripts.Branch:
		return e.jump(c.Goal)
	case scripts.Test:
		if e.put {
			e.put = false
			return e.jump(c.Goal)
		}
	default:
		if !e.edit(c) {
			return e.stop(api.Overflow)
		}
	}
	return e.jump(e.at + 1)
}

func (e *Editor) doDropLine() step {
	if !e.dropLine() {
		return over
	}
	e.printComing()
	return anew
}

// doNext does n or N as far as what is known lets it.
func (e *Editor) doNext(kind scripts.Kind) step {
	if e.stage == doing {
		more, known := e.more()
		if !known {
			return rest
		}
		if !more {
			// The next cycle finds no line either, and so the editor has Ended.
			return finish
		}
		if kind == scripts.Next {
			e.printSpace()
			e.printComing()
		}
		e.stage = reading
	}
	way := e.patternSpace.become
	if kind == scripts.Join {
		way = e.patternSpace.grow
	}
	if !e.atHand() || !e.readBy(way) {
		return rest
	}
	return e.jump(e.at + 1)
}

// edit does a command that goes on with the next one; false, if a space cannot
// hold what it makes.
func (e *Editor) edit(c *scripts.Command) bool {
	switch c.Kind {
	case scripts.Print:
		e.print(e.patternSpace.text)
	case scripts.PrintLine:
		e.print(e.firstLine())
	case scripts.Count:
		e.print(strconv.Itoa(e.number))
	case scripts.After:
		e.later(c.Text)
	case scripts.Before:
		e.print(c.Text)
	case scripts.Get:
		return e.patternSpace.become(e.holdSpace.text)
	case scripts.GetMore:
		return e.patternSpace.grow(e.holdSpace.text)
	case scripts.Hold:
		return e.holdSpace.become(e.patternSpace.text)
	case scripts.HoldMore:
		return e.holdSpace.grow(e.patternSpace.text)
	case scripts.Exchange:
		e.exchange(&e.patternSpace)
	case scripts.Substitute:
		return e.substitute(&c.Put)
	case scripts.Transliterate:
		e.transliterate(c.From, c.To)
	}
	return true
}

func (e *Editor) substitute(p *scripts.Put) bool {
	text, ok := replaced(e.patternSpace.text, p)
	if !ok {
		return true
	}
	if !e.patternSpace.become(text) {
		return false
	}
	e.put = true
	if p.Print {
		e.print(text)
	}
	return true
}
