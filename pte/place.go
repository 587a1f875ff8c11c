package pte

import "matryoshka/api"

const (
	levels = 4
	// An index has so many bits that it's the place of a word in a frame.
	indexBits = 4
)

func isPage(page int) bool { return page >= 0 && page < api.MaxPages }

func isLevel(level int) bool { return level >= 0 && level < levels }

// Index is a page's place in a table of the level; -1, if there is no such page or level.
func Index(page, level int) int {
	if !isPage(page) || !isLevel(level) {
		return -1
	}
	return page >> (indexBits * level) % api.FrameWords
}

// At is the word of memory at which a page's entry of the level stands, in a frame; -1, if there is no such frame, page or level.
func At(frame, page, level int) int {
	index := Index(page, level)
	if index < 0 || !isFrame(frame) {
		return -1
	}
	return api.FrameWords*frame + index
}

// Span is how many pages an entry of the level covers; 0, if there is no such level.
func Span(level int) int {
	if !isLevel(level) {
		return 0
	}
	return 1 << (indexBits * level)
}
