// Package quorum is layer 1: how many replicas must have answered, and which ones have: see shared/doc/01-quorum.md.
package quorum

import "althing/api"

// counts is how many replicas make a whole shard, a majority and a fast quorum.
type counts struct{ size, slow, fast int }

// countsOf has a row for each F; row 0 stays empty, as no shard tolerates 0 failures.
var countsOf = [api.MaxF + 1]counts{
	{0, 0, 0},
	{3, 2, 2},
	{5, 3, 4},
	{7, 4, 6},
}

// Size is how many replicas a shard has.
func Size(f int) int {
	if !isShard(f) {
		return 0
	}
	return countsOf[f].size
}

// Slow is how many make a majority.
func Slow(f int) int {
	if !isShard(f) {
		return 0
	}
	return countsOf[f].slow
}

// Fast is how many make a fast quorum.
func Fast(f int) int {
	if !isShard(f) {
		return 0
	}
	return countsOf[f].fast
}

// Has tells whether a replica is in a set.
func Has(set, k int) bool {
	return isReplica(k) && set&(1<<k) != 0
}

// With is a set with a replica in it.
func With(set, k int) int {
	if !isReplica(k) {
		return set
	}
	return set | 1<<k
}

// Without is a set without a replica.
func Without(set, k int) int {
	if !isReplica(k) {
		return set
	}
	return set &^ (1 << k)
}

// Members is the replicas of a set.
func Members(set int) []int {
	var members []int
	for k := range api.MaxN {
		if Has(set, k) {
			members = append(members, k)
		}
	}
	return members
}

// Count is how many there are.
func Count(set int) int {
	n := 0
	for k := range api.MaxN {
		if Has(set, k) {
			n++
		}
	}
	return n
}

// All is the set of all replicas.
func All(f int) int {
	set := 0
	for k := range Size(f) {
		set = With(set, k)
	}
	return set
}

// Major tells whether a majority is in a set.
func Major(f, set int) bool {
	// Without the first condition, no replicas would be a majority of no shard.
	return isShard(f) && Count(set&All(f)) >= Slow(f)
}

func isShard(f int) bool {
	return f >= 1 && f <= api.MaxF
}

func isReplica(k int) bool {
	return k >= 0 && k < api.MaxN
}
