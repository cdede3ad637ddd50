package edit_test

import (
	"bytes"
	"testing"

	"stanza/api"
	"stanza/edit"
)

// roomy gives bytes spare room that is filled with others.
func roomy(s string) []byte {
	return []byte(s + "#######")[:len(s)]
}

// stays holds bytes and their spare room against what roomy made.
func stays(t *testing.T, what string, b []byte, s string) {
	t.Helper()
	if string(b) != s || string(b[len(b):len(s)+7]) != "#######" {
		t.Errorf("R6: %s became %q, with spare room %q", what, b, b[:len(s)+7])
	}
}

// spoil puts a byte at all places, spare room included.
func spoil(b []byte) {
	b = b[:cap(b)]
	for i := range b {
		b[i] = '!'
	}
}

// memoryEdits are changes of abcd: those that leave the text as it is among them, and wrong ones.
func memoryEdits() []api.Edit {
	return []api.Edit{put(1, 2, "x"), put(0, 0, ""), put(4, 0, ""), put(0, 4, ""), put(0, 4, "xyz"), put(0, 1, ""), put(3, 1, ""), put(4, 0, "xyz"), put(0, 0, "xyz"), put(1, 2, "bc"), put(-1, 2, "x"), put(3, 2, "x"), put(1, -1, ""), put(4, 1, "")}
}

// R6: the text and what comes aren't changed, spare room included; nor is that room read.
func TestHandedInStays(t *testing.T) {
	for _, e := range memoryEdits() {
		b, ins := roomy("abcd"), string(e.Ins)
		bare, code := edit.Splice([]byte("abcd"), e)
		e.Ins = roomy(ins)
		for range 2 {
			checks(t, len(b), e, code)
			got, _ := edit.Splice(b, e)
			if !bytes.Equal(got, bare) {
				t.Errorf("R6: with spare room %q, without %q", got, bare)
			}
			edit.Undo(b, e)
			stays(t, "the text", b, "abcd")
			stays(t, "what comes", e.Ins, ins)
		}
	}
}

// R6: an answer may be changed, its spare room included, without changing what was handed in, another answer, or what is asked for later.
func TestAnswersAreNew(t *testing.T) {
	for _, e := range memoryEdits() {
		b, ins := roomy("abcd"), string(e.Ins)
		bare := put(e.At, e.Del, ins)
		want, _ := edit.Splice([]byte("abcd"), bare)
		wantBack, _ := edit.Undo([]byte("abcd"), bare)
		e.Ins = roomy(ins)
		for range 3 {
			one, _ := edit.Splice(b, e)
			other, _ := edit.Splice(b, e)
			back, _ := edit.Undo(b, e)
			otherBack, _ := edit.Undo(b, e)
			spoil(one)
			spoil(back.Ins)
			if !bytes.Equal(other, want) || !same(otherBack, wantBack) {
				t.Errorf("R6: behind spoilt answers: %q and %v, want %q and %v", other, otherBack, want, wantBack)
			}
			spoil(other)
			spoil(otherBack.Ins)
			stays(t, "the text", b, "abcd")
			stays(t, "what comes", e.Ins, ins)
		}
	}
}

// R6: nothing of what was handed in is kept: bytes that are changed change no answer.
func TestHandedInIsNotKept(t *testing.T) {
	for _, e := range memoryEdits() {
		want, _ := edit.Splice([]byte("abcd"), e)
		wantBack, _ := edit.Undo([]byte("abcd"), e)
		b, ins := roomy("abcd"), roomy(string(e.Ins))
		e.Ins = ins
		got, _ := edit.Splice(b, e)
		back, _ := edit.Undo(b, e)
		spoil(b)
		spoil(ins)
		if !bytes.Equal(got, want) || !same(back, wantBack) {
			t.Errorf("R6: behind changes of what was handed in: %q and %v, want %q and %v", got, back, want, wantBack)
		}
	}
}

// R6: what comes may be a piece of the text itself, or stand in its spare room.
func TestInsOfTheText(t *testing.T) {
	whole := []byte("abcdefgh")
	for from := range whole {
		for to := from; to <= len(whole); to++ {
			for at := 0; at <= 4; at++ {
				for del := 0; del <= 4-at; del++ {
					e := api.Edit{At: at, Del: del, Ins: whole[from:to]}
					got, code := edit.Splice(whole[:4], e)
					if want := "abcd"[:at] + "abcdefgh"[from:to] + "abcd"[at+del:]; code != api.OK || string(got) != want {
						t.Fatalf("R6: %q, %d, want %q", got, code, want)
					}
					back, _ := edit.Undo(whole[:4], e)
					spoil(got)
					spoil(back.Ins)
					if string(whole) != "abcdefgh" {
						t.Fatalf("R6: the text became %q", whole)
					}
				}
			}
		}
	}
}

// R8: other texts and changes that were asked for in between change no answer.
func TestAsksStandApart(t *testing.T) {
	for range 3 {
		becomes(t, "abcd", put(1, 2, "x"), "axd")
		refused(t, "abcd", put(3, 2, "x"), api.ErrEdit)
		takesBack(t, "abcd", put(1, 2, "x"), put(1, 1, "bc"))
		refused(t, "", change(0, 0, mostBytes+1), api.ErrText)
		becomes(t, "abcd", put(0, 4, ""), "")
		takesBack(t, "", put(0, 0, "long"), put(0, 4, ""))
	}
}
