package config

import "triune/api"

// check tells by an error why a configuration may not be, if it may not.
func check(c Config) error {
	if !within(len(c.Points), 1, api.MostPoints) {
		return fault{"Points", api.ErrMany}
	}
	if err := checkParts(c); err != nil {
		return err
	}
	return checkTwice(c.Points)
}

// within tells whether n is from least to most.
func within(n, least, most int) bool { return n >= least && n <= most }

// checkParts tells by an error which number may not be, if one may not.
func checkParts(c Config) error {
	for i, unit := range c.Units {
		if !within(int(unit), 1, mostUnit) {
			return fault{nth("Units", i), api.ErrArg}
		}
	}
	if err := checkFields(fieldsOf(&c)); err != nil {
		return err
	}
	for i, p := range c.Points {
		if err := checkFields(pointFields(&p)); err != nil {
			return fault{nth("Points", i), err}
		}
	}
	return nil
}

// checkFields tells by an error which of some fields may not be, if one may not.
func checkFields(l []field) error {
	for _, f := range l {
		if !within(*f.at, f.least, f.most) {
			return fault{f.name, api.ErrArg}
		}
	}
	return nil
}

// checkTwice tells by an error which point stands where one ahead of it stands, if one does.
func checkTwice(l []api.Point) error {
	for i, p := range l {
		for _, q := range l[:i] {
			if p.Kind == q.Kind && (p.Addr == q.Addr || p.At == q.At) {
				return fault{nth("Points", i), api.ErrTwice}
			}
		}
	}
	return nil
}
