package texts

import "testing"

func TestCursor(t *testing.T) {
	c := Cursor{Text: "a \xff"}
	if c.Peek() != 'a' || !c.NextIsIn("xa") || c.NextIsIn("x") || c.NextIsIn("") {
		t.Error("the first byte is not seen")
	}
	if c.Accept('x') || c.At != 0 {
		t.Error("stepped over another byte")
	}
	if !c.Accept('a') || c.At != 1 {
		t.Error("did not step over the byte")
	}
	if c.Skip("x"); c.At != 1 {
		t.Error("skipped another byte")
	}
	if c.Skip(" a"); c.At != 2 || c.Peek() != 0xff {
		t.Error("did not skip to the last byte")
	}
	if !c.Accept(0xff) || c.Peek() != End {
		t.Error("did not come to the end")
	}
	if c.Skip("a"); c.Accept('a') || c.NextIsIn("a\xff") || c.At != 3 {
		t.Error("went on behind the end")
	}
}

func TestCursorOfNothing(t *testing.T) {
	c := Cursor{}
	if c.Peek() != End || c.NextIsIn("\x00") || c.Accept(0) {
		t.Error("something is there")
	}
}
