package screen_test

import "tinder/api"

// The model keeps a picture as rows, and turns it by one quarter after another: the rows from the lowest up become the columns from the left. What is drawn is told point by point of the picture below, by what lies above.

func modelFormed(p api.Picture) bool {
	if p.W < 0 || p.H < 0 || p.W >= 65 || p.H >= 65 {
		return false
	}
	n := 0
	for range p.H {
		n += p.W
	}
	return n == len(p.Points)
}

func modelRows(p api.Picture) [][]byte {
	rows := make([][]byte, p.H)
	for y := range rows {
		rows[y] = p.Points[y*p.W:][:p.W]
	}
	return rows
}

func modelPicture(rows [][]byte, w int) api.Picture {
	p := api.Picture{W: w, H: len(rows)}
	for _, row := range rows {
		p.Points = append(p.Points, row...)
	}
	return p
}

func modelQuarter(p api.Picture) api.Picture {
	columns := make([][]byte, p.W)
	for _, row := range modelRows(p) {
		for x, v := range row {
			columns[x] = append([]byte{v}, columns[x]...)
		}
	}
	return modelPicture(columns, p.H)
}

func modelTurn(p api.Picture, quarters int) (api.Picture, api.Errno) {
	if !modelFormed(p) {
		return api.Picture{}, api.ErrArg
	}
	for range (quarters%4 + 4) % 4 {
		p = modelQuarter(p)
	}
	return p, api.OK
}

func modelMirror(p api.Picture) (api.Picture, api.Errno) {
	if !modelFormed(p) {
		return api.Picture{}, api.ErrArg
	}
	var rows [][]byte
	for _, row := range modelRows(p) {
		var back []byte
		for _, v := range row {
			back = append([]byte{v}, back...)
		}
		rows = append(rows, back)
	}
	return modelPicture(rows, p.W), api.OK
}

// modelPlace: where the only light point is, when the picture with it was turned.
func modelPlace(w, h, quarters, x, y int) (int, int) {
	p := api.Picture{W: w, H: h}
	if w < 1 || w > 64 || h < 1 || h > 64 || x < 0 || x >= w || y < 0 || y >= h {
		return 0, 0
	}
	p.Points = make([]byte, w*h)
	modelRows(p)[y][x] = 1
	p, _ = modelTurn(p, quarters)
	for row, points := range modelRows(p) {
		for column, v := range points {
			if v != 0 {
				return column, row
			}
		}
	}
	return -1, -1
}

func modelDraw(p, q api.Picture, x, y, quarters int) (api.Picture, api.Errno) {
	if !modelFormed(p) || !modelFormed(q) || x*x > 4096 || y*y > 4096 {
		return api.Picture{}, api.ErrArg
	}
	q, _ = modelTurn(q, quarters)
	above := modelRows(q)
	a := api.Picture{W: p.W, H: p.H}
	for py, row := range modelRows(p) {
		for px, v := range row {
			if qx, qy := px-x, py-y; qy >= 0 && qy < len(above) && qx >= 0 && qx < len(above[qy]) && above[qy][qx] != 0 {
				v = above[qy][qx]
			}
			a.Points = append(a.Points, v)
		}
	}
	return a, api.OK
}
