// Package limits tells whether a config is right: the log asks it, and what is held against the log.
package limits

import "sibyl/api"

const (
	maxShards = api.MaxActors - 1 // one actor more is the merger
	maxMany   = 4096
)

// Right tells whether each number of a config is one that may be.
func Right(c api.Config) bool {
	for _, n := range [...]int{c.Inbox, c.Slots, c.Queries, c.Runs, c.Outputs} {
		if n < 1 || n > maxMany {
			return false
		}
	}
	return c.Shards >= 1 && c.Shards <= maxShards && c.Stamps >= 1 && c.Stamps <= api.MaxStamps
}
