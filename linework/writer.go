package linework

import "bytes"

// writer keeps what was put out till it is taken, and the texts to come.
type writer struct {
	out    []byte
	taken  int // bytes of out that were taken
	coming []string
}

// print puts out a text, and a newline behind it.
func (w *writer) print(text string) {
	w.out = append(append(w.out, text...), '\n')
}

// later keeps a text that is to come.
func (w *writer) later(text string) { w.coming = append(w.coming, text) }

// printComing prints the texts to come, which are none then.
func (w *writer) printComing() {
	for _, text := range w.coming {
		w.print(text)
	}
	w.coming = w.coming[:0]
}

func (w *writer) ready() int { return len(w.out) - w.taken }

// take takes the first n bytes that are ready, or as many as there are.
func (w *writer) take(n int) string {
	n = min(max(n, 0), w.ready())
	text := string(w.out[w.taken : w.taken+n])
	w.taken += n
	// Let go only when half of all was taken: to copy the rest each time would
	// take too long, to keep all of it for ever too much.
	if 2*w.taken >= len(w.out) {
		w.out, w.taken = bytes.Clone(w.out[w.taken:]), 0
	}
	return text
}
