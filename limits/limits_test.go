package limits_test

import (
	"testing"

	"sibyl/api"
	"sibyl/limits"
)

func TestRight(t *testing.T) {
	least := api.Config{Shards: 1, Inbox: 1, Slots: 1, Queries: 1, Runs: 1, Outputs: 1, Stamps: 1}
	most := api.Config{Shards: 15, Inbox: 4096, Slots: 4096, Queries: 4096, Runs: 4096, Outputs: 4096, Stamps: 1 << 40}
	if !limits.Right(least) || !limits.Right(most) || limits.Right(api.Config{}) {
		t.Errorf("what may be, and is the least, or the most, is not right, or nothing is")
	}
	parts := func(c *api.Config) []*int {
		return []*int{&c.Shards, &c.Inbox, &c.Slots, &c.Queries, &c.Runs, &c.Outputs, &c.Stamps}
	}
	for i := range parts(&most) {
		for _, less := range []int{0, -1, -1 << 63} {
			c := least
			if *parts(&c)[i] = less; limits.Right(c) {
				t.Errorf("%+v is right", c)
			}
		}
		for _, more := range []int{*parts(&most)[i] + 1, 1<<63 - 1} {
			c := most
			if *parts(&c)[i] = more; limits.Right(c) {
				t.Errorf("%+v is right", c)
			}
		}
	}
}
