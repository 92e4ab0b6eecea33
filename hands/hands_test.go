package hands_test

import (
	"testing"

	"sibyl/api"
	"sibyl/hands"
	"sibyl/log"
)

func TestHands(t *testing.T) {
	l := log.New(api.Config{Shards: 1, Inbox: 1, Slots: 3, Queries: 1, Runs: 1, Outputs: 1, Stamps: 1})
	s, e := l.Store(), l.Epochs()
	a, _ := s.Take(api.Event{})
	b, _ := s.Take(api.Event{})
	s.Add(b, 1)
	h := hands.New(l, 1)
	if h.Full() {
		t.Errorf("new ones are full")
	}
	h.Take([]api.Ref{a, b, {Slot: 2}})
	for i, want := range [][3]int{{0, 2, 0}, {0, 2, 1}, {0, 1, 1}, {0, 1, 1}} {
		if full := h.Full(); !full {
			t.Fatalf("ahead of step %d nothing is left", i)
		}
		h.LetGo()
		if got := [3]int{s.Count(a), s.Count(b), e.Limbo(1)}; got != want {
			t.Errorf("behind step %d: %v, want %v", i, got, want)
		}
	}
	if h.Full() || e.Limbo(0) != 0 {
		t.Errorf("something is left, or in the limbo of another one")
	}
	h.Ripen()
	if h.Full() {
		t.Errorf("it is ripe at once")
	}
	e.Advance()
	e.Advance()
	if h.Ripen(); !h.Full() || s.Used() != 2 {
		t.Errorf("it is not ripe, or free, behind two advances")
	}
	if h.Free(); h.Full() || s.Used() != 1 {
		t.Errorf("it is not free")
	}
}
