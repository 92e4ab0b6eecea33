// Package hands lets refs go, and frees those that are ripe, one step at a time: for the workers, and the merger.
package hands

import (
	"sibyl/api"
	"sibyl/epoch"
	"sibyl/log"
	"sibyl/store"
)

// Hands have refs, with each of which something is to be done.
type Hands struct {
	store  *store.Store
	epochs *epoch.Epochs
	actor  int
	refs   []api.Ref
	dead   bool // the first one was let go, and nobody holds it any more
}

// New are empty hands of an actor of a log's epochs.
func New(l *log.Log, actor int) *Hands {
	return &Hands{store: l.Store(), epochs: l.Epochs(), actor: actor}
}

// Take has hands, which are empty, have refs.
func (h *Hands) Take(refs []api.Ref) { h.refs = refs }

// Full tells whether something is left to be done.
func (h *Hands) Full() bool { return len(h.refs) > 0 }

// LetGo is the step by which the first ref is held once less; or that by which it is retired then, if nobody holds it.
func (h *Hands) LetGo() {
	r := h.refs[0]
	if h.dead {
		h.epochs.Retire(h.actor, r)
		h.dead = false
	} else {
		n, ok := h.store.Add(r, -1)
		h.dead = ok && n == 0
	}
	if !h.dead {
		h.refs = h.refs[1:]
	}
}

// Ripen has the hands have those that are ripe.
func (h *Hands) Ripen() { h.refs = h.epochs.Ripe(h.actor) }

// Free is the step by which the first ref's slot may be used anew.
func (h *Hands) Free() {
	h.store.Free(h.refs[0])
	h.refs = h.refs[1:]
}
