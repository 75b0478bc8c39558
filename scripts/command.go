// Package scripts reads scripts into rows of commands.
package scripts

import "linework/patterns"

// Kind tells what a command does.
type Kind int

// The kinds of commands, in the order of letters.
const (
	Block         Kind = iota // {
	Drop                      // d
	DropLine                  // D
	Next                      // n
	Join                      // N
	Print                     // p
	PrintLine                 // P
	Get                       // g
	GetMore                   // G
	Hold                      // h
	HoldMore                  // H
	Exchange                  // x
	Count                     // =
	Quit                      // q
	After                     // a
	Before                    // i
	Instead                   // c
	Branch                    // b
	Test                      // t
	Substitute                // s
	Transliterate             // y
)

// letters are what the commands are written as, in the order of the kinds.
const letters = "{dDnNpPgGhHx=qaicbtsy"

// Command is a command of a script. A field that its kind does not speak of is zero.
type Command struct {
	Kind          Kind
	First, Second Where
	Not           bool   // what the address selects is turned
	Goal          int    // of a Block the command behind it, of a Branch and a Test that to go on with
	Text          string // of After, Before and Instead
	Put           Put    // of a Substitute
	From, To      string // of a Transliterate: bytes, and at the same places what becomes of them
}

// Sort tells what one half of an address selects.
type Sort int

// The sorts of halves of an address.
const (
	Always   Sort = iota // none is written
	Line                 // the line of a number
	Last                 // the last line
	Matching             // what a pattern matches
)

// Where is one half of an address.
type Where struct {
	Sort    Sort
	Number  int           // of a Line
	Pattern patterns.Tree // of a Matching
}

// Put is what a Substitute puts in the place of what.
type Put struct {
	Pattern  patterns.Tree
	Template []Piece
	Number   int  // of the first match that is replaced, from 1 on
	All      bool // and all behind it
	Print    bool
}

// Piece is a piece of a template: what a bracket got (0: what was matched), or
// a byte, if Group is Plain.
type Piece struct {
	Group int
	Byte  byte
}

// Plain is the Group of a piece that stands for itself.
const Plain = -1
