package ledger

import (
	"slices"

	"kentledge/api"
)

// Chain returns the chain behind a posting.
func Chain(before int, p api.Posting) (int, api.Errno) {
	if !within(before, 0, api.MaxChain-1) || !isID(p.Item) || !isID(p.Account) || !isDay(p.Day) || !within(p.Amount, -api.MaxPence, api.MaxPence) {
		return 0, api.ErrArg
	}
	rest := (31*before + p.Item + 3*p.Day + 5*p.Account + 7*p.Amount) % api.MaxChain
	if rest < 0 { // Go's remainder of a negative number is negative
		rest += api.MaxChain
	}
	return rest, api.OK
}

// Leaves returns the postings as known on a day, on leaves.
func Leaves(l []api.Item, known int) ([]api.Leaf, api.Errno) {
	postings, e := Postings(l, known)
	if e != api.OK {
		return nil, e
	}
	var leaves []api.Leaf
	chain := 0
	for lines := range slices.Chunk(postings, api.LeafLine) {
		leaf := api.Leaf{Number: len(leaves) + 1, Before: chain, Lines: slices.Clone(lines)}
		for _, p := range lines {
			chain, _ = Chain(chain, p) // no error: the items were checked
		}
		leaf.After = chain
		leaves = append(leaves, leaf)
	}
	return leaves, api.OK
}

// CheckLeaves returns OK if the chain of leaves is right, or the first leaf with which it is not.
func CheckLeaves(l []api.Leaf) (api.Errno, int) {
	if len(l) > 2*api.MaxItems {
		return api.ErrLimit, -1
	}
	if right := rightLeaves(l); right < len(l) {
		return api.ErrProof, right
	}
	return api.OK, -1
}

// rightLeaves returns how many leaves are right ahead of the first one that is wrong.
func rightLeaves(l []api.Leaf) int {
	right, chain := 0, 0
leaves:
	for i, leaf := range l {
		if leaf.Number != i+1 || !isFilled(leaf, i == len(l)-1) || leaf.Before != chain {
			break
		}
		for _, p := range leaf.Lines {
			behind, e := Chain(chain, p)
			if e != api.OK {
				break leaves
			}
			chain = behind
		}
		if leaf.After != chain {
			break
		}
		right++
	}
	return right
}

// isFilled reports whether a leaf has as many lines as it should have.
func isFilled(leaf api.Leaf, isLast bool) bool {
	n := len(leaf.Lines)
	return n == api.LeafLine || isLast && within(n, 1, api.LeafLine)
}

// Read returns the postings on leaves.
func Read(l []api.Leaf) (lines []api.Posting, e api.Errno) {
	defer func() {
		if wrong, is := recover().(api.Errno); is {
			lines, e = nil, wrong
		}
	}()
	return linesOf(l), api.OK
}

// linesOf returns all lines of leaves, and panics with the error if they are wrong.
func linesOf(l []api.Leaf) []api.Posting {
	if e, _ := CheckLeaves(l); e != api.OK {
		panic(e)
	}
	var lines []api.Posting
	for _, leaf := range l {
		lines = append(lines, leaf.Lines...)
	}
	return lines
}
