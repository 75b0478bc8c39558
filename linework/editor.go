package linework

import (
	"linework/api"
	"linework/scripts"
)

// Editor edits a stream.
type Editor struct {
	reader
	patternSpace
	holdSpace
	writer
	commands []scripts.Command
	open     []bool // of each command: is its range open?
	at       int    // the command at hand
	stage    stage
	looked   int  // how many commands were looked at since a line was read
	fuel     int  // how many that may be
	put      bool // an s has put something in place since then, and since a t went on elsewhere
	quiet    bool
	state    int // as in package api
}

// stage tells how far a cycle has come, so that it can wait there for input.
type stage int

// The stages of a cycle, and of the command at hand.
const (
	starting stage = iota // the line of the cycle is not read yet
	looking               // the command was not looked at yet
	choosing              // whether it is selected was not known yet
	doing                 // it is selected
	reading               // all is done that comes ahead of reading its line
)

// step tells what a cycle does next.
type step int

// The steps of a cycle.
const (
	rest   step = iota // nothing, till more is known; or for ever, if the editor has stopped
	onward             // go on with the command at hand
	anew               // begin anew with what the pattern space is
	over               // end, and print nothing of the pattern space
	finish             // end
)

// newEditor is an editor that was fed nothing yet.
func newEditor(commands []scripts.Command, l api.Limits) *Editor {
	return &Editor{
		reader:       reader{longest: l.Line},
		patternSpace: patternSpace{space{most: l.Space}},
		holdSpace:    holdSpace{space{most: l.Space}},
		commands:     commands,
		open:         make([]bool, len(commands)),
		fuel:         l.Fuel,
		quiet:        l.Quiet,
	}
}

// allowed tells whether limits may be.
func allowed(l api.Limits) bool {
	return within(l.Line, api.MaxLine) && within(l.Space, api.MaxSpace) && within(l.Fuel, api.MaxFuel)
}

func within(n, most int) bool { return 1 <= n && n <= most }

// takes tells whether more input could change anything.
func (e *Editor) takes() bool { return e.state == api.Running && !e.ended }

// work does all that can be done with what is known, from where it came to the
// last time.
func (e *Editor) work() {
	if e.stage != starting {
		goto resume
	}
begin:
	e.stage = starting
	if !e.begin() {
		return
	}
anew:
	e.at = 0
look:
	if e.at == len(e.commands) {
		goto end
	}
	e.stage = looking
resume:
	switch e.command() {
	case rest:
		return
	case onward:
		goto look
	case anew:
		goto anew
	case over:
		goto over
	}
end:
	e.printSpace()
over:
	e.printComing()
	if e.state == api.Running {
		goto begin
	}
}

// begin reads the line of a new cycle, if it is at hand.
func (e *Editor) begin() bool {
	if !e.atHand() {
		return false
	}
	if more, _ := e.more(); !more {
		e.state = api.Ended
		return false
	}
	return e.readBy(e.patternSpace.become)
}

// readBy reads the next line into the pattern space in a way, or stops.
func (e *Editor) readBy(way func(string) bool) bool {
	if e.tooLong() {
		e.state = api.LongLine
		return false
	}
	if !way(e.read()) {
		e.state = api.Overflow
		return false
	}
	e.looked, e.put = 0, false
	return true
}

// printSpace prints what is printed of the pattern space at the end of a cycle.
func (e *Editor) printSpace() {
	if !e.quiet {
		e.print(e.patternSpace.text)
	}
}
