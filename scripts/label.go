package scripts

// mostLetters is how many a label has at most.
const mostLetters = 8

// label is a label where it stands.
type label struct {
	name    string // empty, if a command wants to go to the end
	at      int    // the place of its first letter
	command int    // behind a `:` the command that comes next, else the one that wants to go there
	wanted  bool   // by a command
}

// mark reads a `:` and its label.
func (r *reader) mark() bool {
	r.At++
	return r.label(false) != ""
}

// label reads a label, or none, ahead of the next command or within it.
func (r *reader) label(wanted bool) string {
	from := r.At
	for r.At < from+mostLetters && 'a' <= r.Peek() && r.Peek() <= 'z' {
		r.At++
	}
	name := r.Text[from:r.At]
	r.labels = append(r.labels, label{name: name, at: from, command: len(r.commands), wanted: wanted})
	return name
}

// join leads each command that goes elsewhere to its goal. If one has none, or
// a label stands behind two `:`, it tells the place of the first such label.
func (r *reader) join() (int, bool) {
	marks := r.marks()
	for i, l := range r.labels {
		goal := len(r.commands)
		if l.name != "" {
			mark, ok := marks[l.name]
			if !ok || !l.wanted && mark != i {
				return l.at, false
			}
			goal = r.labels[mark].command
		}
		if l.wanted {
			r.commands[l.command].Goal = goal
		}
	}
	return 0, true
}

// marks tells for each name the first of the labels that stands behind a `:`.
func (r *reader) marks() map[string]int {
	out := map[string]int{}
	for i, l := range r.labels {
		if _, ok := out[l.name]; !ok && !l.wanted {
			out[l.name] = i
		}
	}
	return out
}
