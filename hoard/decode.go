package hoard

import "hoard/decoder"

// goOn reckons the next n tokens of a sequence, and their cells, and changes nothing: how many blocks they need can be told only when all of them are known.
func (h *Hoard) goOn(last *block, n int) ([]int, []decoder.Cell) {
	next := make([]int, n)
	cells := last.cells()
	known := len(cells)
	x := h.behind(last)
	for i := range next {
		next[i] = h.model.Next(x)
		var cell decoder.Cell
		x, cell = h.model.Pass(next[i], cells, nil)
		cells = append(cells, cell)
	}
	return next, cells[known:]
}

// behind gives what comes out of the last layer for the last token of a sequence.
func (h *Hoard) behind(last *block) []int {
	tokens, cells := last.tokens(), last.cells()
	p := len(tokens) - 1
	x, _ := h.model.Pass(tokens[p], cells[:p], cells[p])
	return x
}
