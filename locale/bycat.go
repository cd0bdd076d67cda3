package locale

import "florin/rule"

// ByCat is something for each category: that of other, where there is none.
type ByCat[V any] struct {
	things [rule.Other + 1]V
	there  [rule.Other + 1]bool
}

// Put puts something for a category.
func (b *ByCat[V]) Put(c rule.Cat, v V) {
	if isCategory(c) {
		b.things[c], b.there[c] = v, true
	}
}

// Get is what there is for a category, or that of other.
func (b *ByCat[V]) Get(c rule.Cat) V {
	if b.Has(c) {
		return b.things[c]
	}
	return b.things[rule.Other]
}

// Has tells whether there is something for a category itself.
func (b *ByCat[V]) Has(c rule.Cat) bool { return isCategory(c) && b.there[c] }

func isCategory(c rule.Cat) bool { return c >= rule.Zero && c <= rule.Other }
